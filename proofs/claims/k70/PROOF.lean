import PyProof.Rows.All
import HandS.TryOnly
import HandS.Conv
import HandS.GenOver
import HandS.RevRange
import HandS.Zip0
import Wide.All
import OpenK.AllK
import Wide.FinOn
import KE.KNest
import PyProof.ReprRoads
import PyProof.StrLawsRepr
import PyProof.FitsInt
import PyProof.StrBlock2
import HandS.Base
import HandS.Call
import HandS.List
import HandS.Comp
import HandS.Nested
import HandS.AnyAll
import HandS.Ends
import HandS.EndBits
import HandS.Iter
import HandS.Wide
import HandS.WideBits
import HandS.Words
import HandS.WordsList
import HandS.IsInst
import HandS.TupLe
import HandS.SetBool
import HandS.Deep
import HandS.Walk
import HandS.Set
import HandS.Strs
import HandS.SortRule
import HandS.Style
import PyProof.ListOps
import PyProof.Rows.SetFrom
import PyProof.SumAny
import KE.KTypeName
import KE.KExcIs
import HandS.Gcd
import HandS.WordsExc
import HandS.Exc
import HandS.ExcOwn
import HandS.ExcInit
import HandS.ExcField
import HandS.FStr
import PySem.Challenge.RW_unsaidsizes_k70_values_that_keep_rows
import KE.KMathG
import KE.RegKMathG
set_option Elab.async false
set_option linter.all false
set_option maxRecDepth 100000
set_option maxHeartbeats 8000000
-- G
/-! calls under which no text of a list is being made (for repr of lists) -/
namespace LG
open PySem PySem.Spec PyProof.Rows L2
/-- as FnOk, for callers of which it is known that no guard stands -/
structure FnG (P : Program) (w : World) (K : PySem.W.Frag) (mg : Str → Option Value) (base : Heap) (CX : CXT) (k : Nat) (f : Addr) (fd : FuncData) (ps : List Str) (sp : Sp) : Prop where
  len : ∀ vs H Q E, sp vs H Q E → vs.length = ps.length
  run : ∀ (A : Around) (ou : List Env) (s : Shared) (H : Hp) (ar : Args) (us : List Value) (vs : List V) (Q : VK) (E : XK), Room k A → A.guards = some [] → Env0 P w K mg base A ou s H →
    BindsTo s fd ar (ps.zip us) → Vals vs us → sp vs H Q E → codeAny (model P w) A (.call (.ref f) ar) (CR CX ou P w H s Q E) s
section
variable {P : Program} {w : World} {K : PySem.W.Frag} {mg : Str → Option Value} {base : Heap} {CX : CXT} {k : Nat} {f : Addr} {fd : FuncData} {ps : List Str} {sp : Sp}
theorem deeper_guards {A : Around} (e : Env) (h : A.guards = some []) : (A.deeper e).guards = some [] := h
theorem g_of_ok (F : FnOk P w K mg base CX k f fd ps sp) : FnG P w K mg base CX k f fd ps sp := ⟨F.len, fun A ou s H ar us vs Q E hr _ => F.run A ou s H ar us vs Q E hr⟩

/-- a def's body keeps its promise, under known guards -/
theorem fnG_of {nm qu : Str} {pa : Arguments} {bo : List Stmt} {sc : Scope} {dv kv dc pm cd ct oc : Value} {an od : Option Addr} {sl : Array (Option Value)} {N : List Str}
    (hf : K.lookup f = some ⟨oc, od, .func (PySem.W.fnOf nm qu pa bo sc dv kv dc pm an cd ct), sl⟩) (hq : PySem.W.codeIn K cd qu = true) (S : FnScope N ps sc) (ln : ∀ vs H Q E, sp vs H Q E → vs.length = ps.length)
    (hb : ∀ (A : Around) (ou : List Env) (s : Shared) (H : Hp) (vs : List V) (Q : VK) (E : XK), Room k (A.deeper (envOfC qu sc s.heap.objs.size f cd)) → A.guards = some [] → sp vs H Q E →
      ∃ t, PSs (cxOf CX P w K mg base N qu sc f cd A ou s H E) bo t ∧ t { nx := fun _ G => Q .non G, rt := Q } (L2.start N vs) H) :
    FnG P w K mg base CX (k + 1) f (PySem.W.fnOf nm qu pa bo sc dv kv dc pm an cd ct) ps sp := by
  refine ⟨ln, fun A ou s H ar us vs Q E room gd en bd rel want => ?_⟩
  have there : K.In s.heap := en.mod.kin.keeps fun b o z => (en.bs b o z).1
  have nl : s.heap.NoLimit := en.mod.nolimit.keeps fun b o z => (en.bs b o z).1
  refine codeAny_call_function room.depth (there _ _ hf) rfl S.co S.gen rfl (PySem.W.codeRec_of there hq) (bd _ _ _ _ ?_)
  refine wpAny_newFunctionEnv_cells S.kind (fun y hy => ?_) fun env eenv s1 x => ?_
  · obtain ⟨n, v⟩ := y
    exact (S.par n (List.of_mem_zip hy).1).imp id fun q => ⟨q, PySem.W.cellsFrom_some _ _ _ (.inl q)⟩
  subst eenv
  refine ⟨nl.keeps x.toInCall.keep, codeAny_func ?_⟩
  obtain ⟨t, ht, hw⟩ := hb A ou s H vs Q E (room.deeper _) gd want
  have J0 := inv_start (CX := CX) (E := E) S room.hd en (ln _ _ _ _ want) rel x
  refine wpAny_mono (ht.run [] s1 (L2.start N vs) H _ J0 hw) (fun fl s' hs => ?_) fun e s' hs => hs
  cases fl with
  | brk => exact False.elim hs.choose_spec.choose_spec.2
  | cont => exact False.elim hs.choose_spec.choose_spec.2
  | ret u =>
    obtain ⟨v, _, G, J, rv, q⟩ := hs
    exact ⟨v, G, J.os, J.bare, J.base, J.hok, rv, q⟩
  | next =>
    obtain ⟨_, G, J, q⟩ := hs
    exact ⟨V.non, G, J.os, J.bare, J.base, J.hok, rfl, q⟩
/-- .. by the text -/
theorem fun_okG {x qual : Str} {st : Stmt} {N : List Str} (F : Fun K x qual st f fd) (S : FnScope N ps (defScope st)) (ln : ∀ vs H Q E, sp vs H Q E → vs.length = ps.length)
    (hb : ∀ (cd : Value) (A : Around) (ou : List Env) (s : Shared) (H : Hp) (vs : List V) (Q : VK) (E : XK), Room k (A.deeper (envOfC qual (defScope st) s.heap.objs.size f cd)) → A.guards = some [] → sp vs H Q E →
      ∃ t, PSs (cxOf CX0 P w K mg base N qual (defScope st) f cd A ou s H E).nox (defBody st) t ∧ t { nx := fun _ G => Q .non G, rt := Q } (L2.start N vs) H) : FnG P w K mg base CX0 (k + 1) f fd ps sp := by
  obtain ⟨oc, od, kV, doc, pm, an, cd, ct, osl, rfl, lk, hc⟩ := F.ex
  refine fnG_of lk hc S ln fun A ou s H vs Q E hr hg want => ?_
  obtain ⟨t, h, q⟩ := hb cd A ou s H vs Q E hr hg want
  exact ⟨t, h.nox, q⟩
end
section
variable {X : Cx} {CX : CXT} {k : Nat} {f : Addr} {fd : FuncData} {ps : List Str} {sp : Sp} {dvs : List V} {ds : List Value} {E : XK} {x : Str} {p pos : Pos} {e : Expr} {es : List Expr} {t : TA}
theorem pe_callG (F : FnG X.prog X.w X.K X.mg X.base CX k f fd ps sp) (hr : Room k X.A) (gd : X.A.guards = some []) (hg : Gl X x) (hm : X.mg x = some (.ref f)) (hk : PySem.W.keepIn X.K (.ref f) = true) (hb : Binds X.K fd ps ds) (hd : Vals dvs ds) (hx : Passes CX X E)
    (ha : PA X (e :: es) t) (hdb : (x == ("__debug__" : Str)) = false := by decide) (he : starEach (e :: es) X.env = (false, eval e X.env) :: starEach es X.env := by rfl) (hpl : (backTo pos (starEach es X.env)).any (·.1) = false := by rfl) :
    PE X (.Call (.Name x p) (e :: es) [] pos) (tCall sp dvs E t) := by
  refine ⟨fun pins s σ H Q I h => wpAny_Call_Name_kw (ld_glob I hg hm ?_ hdb)⟩
  refine PySem.W.callWith_K (h₀ := X.base) I.ok.mod.kin hk (thn (ha.run pos pins s σ H _ I h) fun us s1 ⟨vs, H1, J, r, q⟩ => ⟨J.kIn, ?_⟩) he hpl
  have r2 : Vals (vs ++ dvs) (us ++ ds) := r.append hd
  have ll : (us ++ ds).length = ps.length := by
    rw [← r2.length]
    exact F.len _ _ _ _ q
  refine wpAny_call (codeAny_mono (F.run X.A X.stack s1 H1 ⟨us, []⟩ (us ++ ds) (vs ++ dvs) Q E hr gd J.env0 (hb s1 us J.kIn ll) r2 q) fun r s' z => ?_)
  cases r with
  | error er => exact hx pins σ H1 s1 er s' J z
  | ok fl =>
    cases fl with
    | ret u => exact J.after z
    | next => exact False.elim z
    | brk => exact False.elim z
    | cont => exact False.elim z
/-- repr of nested data -/
theorem call_reprD (gd : X.A.guards = some []) (hu : X.A.units + 64 < cLine) : CallR X (.builtin "repr") (fun xs H Q => ∃ (a : Addr) (d : PyData), xs = [.ref a] ∧ Dp X.K H (.ref a) d ∧ d.showable = true ∧ d.hasDict = false ∧ d.depth ≤ 60 ∧ d.shown.length ≤ sizeLine ∧ Q (.str d.shown) H) := by
  intro pins s σ H xs us Q I r h
  obtain ⟨a, d, rfl, hd, h1, h2, h3, h4, q⟩ := h
  obtain ⟨u, rfl, e⟩ := vals1 r
  cases (show u = Value.ref a from e)
  obtain ⟨as, rd⟩ := Dp.reads I d (.ref a) (.ref a) hd rfl
  refine PySem.repr_of_reads' rd h1 (fun z => by rw [h2] at z; cases z) gd (by omega) (fun _ _ z => z) (fun h' u tk k => ?_) h4
  exact ⟨.str _, H, I.kept (t' := tk) k, ⟨u, rfl⟩, q⟩
end

/-! the law's own call -/
section
variable {P : Program} {w : World} {K : PySem.W.Frag} {mg mb : Str → Option Value} {k : Nat} {fa a : Addr} {fd : FuncData} {x : Str} {sp : Sp} {s₁ : Shared} {vs : List Value} {ns : List Int}
/-- from one abstract heap, in which the script alone may stand -/
theorem enter (KX : K.In s₁.heap) (gl : s₁.heap.Ns mainGlobals mg) (bl : s₁.heap.Ns builtinsNs mb) (bb : ∀ y : Str, y ≠ "__name__" → mb y = bootBuiltins y) (nl : s₁.heap.NoLimit) (g0 : s₁.gens = #[])
    (at_ : s₁.heap.get? a = some { cls := .type "list", data := .seq vs.toArray }) (room : Room k callerA) (bind : ∀ (s : Shared) (u : Value), BindsTo s fd ⟨[u], []⟩ [(x, u)])
    (F : ∀ base : Heap, K.In base → base.Ns mainGlobals mg → FnG P w K mg base CX0 k fa fd [x] sp) {H : Hp} (only : Only H) (ok : HOk P w H s₁.heap) (alone : ∀ b, H b ≠ none → b = a) (notK : H a ≠ none → K.lookup a = none)
    (want : sp [.ref a] H (fun v _ => v = .bl true) fun _ _ _ => False) :
    codeAny (model P w) callerA (.call (.ref fa) ⟨[.ref a], []⟩) (fun r s' => r = .ok (.ret (.bool true)) ∧ OldK s₁.heap s'.heap ∧ s'.os = s₁.os ∧ AllBare s'.gens) s₁ := by
  have free : ∀ {b : Addr} {o : Obj}, s₁.heap.get? b = some o → (∀ it n, o.data ≠ .seq it n) → H b = none := fun {b o} z nd => by
    cases q : H b with
    | none => rfl
    | some u =>
      obtain rfl := alone b (by rw [q]; exact fun y => nomatch y)
      rw [at_] at z
      cases z
      exact absurd rfl (nd vs.toArray _)
  have nsOf : ∀ {b : Addr} {m : Str → Option Value}, s₁.heap.Ns b m → (hidT s₁.heap H).Ns b m := fun {b m} ⟨o, es, ep, z, d, r⟩ =>
    ⟨o, es, ep, hidT_get z (free z fun it n y => by rw [d] at y; exact nomatch y), d, r⟩
  have inB : K.In (hidT s₁.heap H) := fun b o z => by
    refine hidT_get (KX b o z) ?_
    cases q : H b with
    | none => rfl
    | some u =>
      obtain rfl := alone b (by rw [q]; exact fun y => nomatch y)
      rw [notK (by rw [q]; exact fun y => nomatch y)] at z
      cases z
  have md : Mod K mg (hidT s₁.heap H) := ⟨inB, nsOf gl, ⟨mb, nsOf bl, bb⟩, let ⟨mc, y1, y2⟩ := nl; ⟨mc, nsOf y1, y2⟩⟩
  have en : Env0 P w K mg (hidT s₁.heap H) callerA [] s₁ H := ⟨rfl, md, fun b o z => of_hidT z, Nat.le_of_eq (hidT_size _ _), trivial, fun b z => absurd (show b ∈ ([] : List Addr) from z) (List.not_mem_nil), ok, .of_eq g0⟩
  refine codeAny_mono ((F _ inB (nsOf gl)).run callerA [] s₁ H ⟨[.ref a], []⟩ [.ref a] [.ref a] _ _ room rfl en (bind s₁ (.ref a)) (.cons rfl .nil) want) fun r s' h => ?_
  cases r with
  | error e => exact False.elim h
  | ok fl =>
    cases fl with
    | next => exact False.elim h
    | brk => exact False.elim h
    | cont => exact False.elim h
    | ret u =>
      obtain ⟨v, G, e1, e2, un, okG, rel, q⟩ := h
      obtain rfl : v = V.bl true := q
      obtain rfl : u = Value.bool true := rel
      refine ⟨rfl, OldK.of_keep fun b o z => ?_, e1, e2⟩
      cases q : H b with
      | none => exact un.keep b o z q (fun y => nomatch y) (fun y => nomatch y)
      | some u =>
        rcases only b with y | ⟨ob, xs, y⟩
        · rw [q] at y
          cases y
        · have z1 := (ok b _ y).1
          have z2 := (okG b _ (un.frzs b ob _ y)).1
          rw [z] at z1
          cases z1
          exact z2

theorem enter_all (KX : K.In s₁.heap) (gl : s₁.heap.Ns mainGlobals mg) (bl : s₁.heap.Ns builtinsNs mb) (bb : ∀ y : Str, y ≠ "__name__" → mb y = bootBuiltins y) (nl : s₁.heap.NoLimit) (g0 : s₁.gens = #[])
    (at_ : s₁.heap.get? a = some { cls := .type "list", data := .seq vs.toArray }) (ia : IntsAre vs ns) (small : ns.length ≤ sizeLine) (room : Room k callerA) (bind : ∀ (s : Shared) (u : Value), BindsTo s fd ⟨[u], []⟩ [(x, u)])
    (F : ∀ base : Heap, K.In base → base.Ns mainGlobals mg → FnG P w K mg base CX0 k fa fd [x] sp) (want : ∀ H : Hp, Only H → SqL K H a (ns.map V.int) → sp [.ref a] H (fun v _ => v = .bl true) fun _ _ _ => False) :
    codeAny (model P w) callerA (.call (.ref fa) ⟨[.ref a], []⟩) (fun r s' => r = .ok (.ret (.bool true)) ∧ OldK s₁.heap s'.heap ∧ s'.os = s₁.os ∧ AllBare s'.gens) s₁ := by
  have rel := vals_ints ia
  cases hk : K.lookup a with
  | some o =>
    have z := KX a o hk
    rw [at_] at z
    cases z
    have only : Only (fun _ => none) := fun _ => .inl rfl
    have len := ia.length
    exact enter KX gl bl bb nl g0 at_ room bind F only (fun b u z => by cases z) (fun b z => absurd rfl z) (fun z => absurd rfl z)
      (want _ only (.inr ⟨_, vs.toArray, _, hk, rfl, rfl, rfl, by rw [List.size_toArray, len]; exact small, by simpa using rel⟩))
  | none =>
    let ob : Obj := { cls := .type "list", data := .seq vs.toArray }
    let H : Hp := fun b => if b = a then some (.frz ob (.lst (ns.map V.int))) else none
    have hit : H a = some (.frz ob (.lst (ns.map V.int))) := if_pos rfl
    have one : ∀ b, H b ≠ none → b = a := fun b z => by
      by_cases e : b = a
      · exact e
      · exact absurd (if_neg e) z
    have only : Only H := fun b => by
      by_cases e : b = a
      · exact .inr ⟨ob, ns.map V.int, if_pos e⟩
      · exact .inl (if_neg e)
    refine enter KX gl bl bb nl g0 at_ room bind F only (fun b u z => ?_) one (fun _ => hk) (want H only (.inl (.inr ⟨ob, hit⟩)))
    obtain rfl := one b (by rw [z]; exact fun y => nomatch y)
    rw [hit] at z
    cases z
    exact ⟨at_, by rw [List.length_map]; exact small, vs, _, rel, at_⟩
end
/-- what k_head leaves, from the law's promise -/
theorem walkG {l : PySem.W.OpenLaw} {n k : Nat} {q : Program} {loose : List Str} {XP : (Str → Option Value) → Heap → Prop} {YP : World → Heap → Prop} {d : DefRec} {K : Params → PySem.W.Frag} {sp : PySem.W.Frag → Sp} {x : Str}
    (hn : l.most = some n) (hz : n ≤ sizeLine) (hdf : d.params.defaults = []) (room : Room k callerA) (hY : ∀ (w : World) (h : Heap), YP w h → (K w.params).In h)
    (F : ∀ (w : World) (mg : Str → Option Value) (fa : Addr) (h : Heap), (K w.params).In h → h.Ns mainGlobals mg → mg d.name = some (.ref fa) →
      ∃ fd : FuncData, (∀ (s : Shared) (u : Value), BindsTo s fd ⟨[u], []⟩ [(x, u)]) ∧ ∀ base : Heap, (K w.params).In base → base.Ns mainGlobals mg → FnG l.prog w (K w.params) mg base CX0 k fa fd [x] (sp (K w.params)))
    (want : ∀ (K : PySem.W.Frag) (H : Hp) (a : Addr) (ns : List Int), ns.length ≤ n → Only H → SqL K H a (ns.map V.int) → sp K [.ref a] H (fun v _ => v = .bl true) fun _ _ _ => False) :
    PySem.W.WalkO q loose XP YP l.row.toRowW d [] (fun f vs => PySem.call f vs) := by
  refine Att.attach_call hn hdf fun w s0 s1 mg mb fa o pm cd doc a vs ns G Y ho hd hcd hmg hobj ia len g0 => ?_
  obtain ⟨fd, bi, FF⟩ := F w mg fa _ (hY w _ Y) G.T.g hmg
  exact enter_all (hY w _ Y) G.T.g G.T.b G.T.builtins G.T.nolimit g0 hobj ia (Nat.le_trans len hz) room bi FF fun H only hs => want _ H a ns len only hs
end LG
-- GL
/-! elements of generator expressions that call nothing of the text: values by names, under whatever frames -/
namespace LE
open PySem PySem.Spec PyProof.Rows L2
/-- where such an element is reckoned: the names that it sees, what stands as the def that holds it had it -/
structure Site (X : Cx) (sc : Scope) (H : Hp) (Γ : List (Str × V)) (ce : Env) (t : Shared) : Prop where
  fn : sc.kind = .function
  eqs : ce.scope = sc
  gl : ce.globals = mainGlobals
  bl : ce.builtins = builtinsNs
  mod : Mod X.K X.mg X.base
  bs : ∀ b o, X.base.get? b = some o → t.heap.get? b = some o
  obj : ∀ b u, H b = some u → (∀ q, u ≠ .tbl q) → ObjOk X.prog X.w H t.heap b u
  var : ∀ y v, Γ.lookup y = some v → ∃ u, RelV v u ∧ ((sc.names.lookup y = some .local ∧ ∃ m, t.heap.Ns ce.locals m ∧ m y = some u) ∨ (sc.names.lookup y = some .free ∧ ∃ c, ce.cells.lookup y = some c ∧ t.heap.IsCell c (some u)))
section
variable {X : Cx} {sc : Scope} {H : Hp} {Γ : List (Str × V)} {ce : Env} {t t' : Shared}
theorem Site.keeps (S : Site X sc H Γ ce t) (k : Keeps t t') : Site X sc H Γ ce t' := by
  obtain ⟨h', n, rfl, kk⟩ := k
  refine ⟨S.fn, S.eqs, S.gl, S.bl, S.mod, fun b o e => kk _ _ (S.bs b o e), fun b u e n => (S.obj b u e n).stay (fun c v _ y => kk c v y) (fun _ y => y) fun _ _ y => y, fun y v e => ?_⟩
  obtain ⟨u, r, l⟩ := S.var y v e
  refine ⟨u, r, l.imp (fun ⟨a, m, hn, hm⟩ => ⟨a, m, hn.keeps kk, hm⟩) fun ⟨a, c, hc, o, ho, hd⟩ => ⟨a, c, hc, o, kk _ _ ho, hd⟩⟩
theorem Site.list {p : Addr} {xs : List V} (S : Site X sc H Γ ce t) (h : SqL X.K H p xs) : ∃ its : List Value, Vals xs its ∧ PlainL t.heap p its.toArray ∧ xs.length ≤ sizeLine := by
  rcases h with (h | ⟨o, h⟩) | ⟨o, its, n, hk, hc, hd, hs, hz, r⟩
  · obtain ⟨z, its, n, r, e⟩ := S.obj p _ h fun _ y => nomatch y
    exact ⟨its, r, ⟨_, n, e, rfl, rfl, rfl⟩, z⟩
  · obtain ⟨_, z, its, n, r, e⟩ := S.obj p _ h fun _ y => nomatch y
    exact ⟨its, r, ⟨_, n, e, rfl, rfl, rfl⟩, z⟩
  · refine ⟨its.toList, r, ⟨o, n, S.bs _ _ (S.mod.kin p o hk), hc, hd, by simpa using hs⟩, ?_⟩
    have e := r.length
    simp only [Array.length_toList] at e
    omega
end
/-- e is v there, and nothing is changed -/
def PU (X : Cx) (sc : Scope) (H : Hp) (Γ : List (Str × V)) (e : Expr) (v : V) : Prop :=
  ∀ (ce : Env) (B : Around) (t : Shared) (F R : Value → Shared → Prop), Site X sc H Γ ce t → (∀ u t', RelV v u → Keeps t t' → R u t') → wpAny (model X.prog X.w) B (eval e ce) R F t
theorem kt (s : Shared) (k : Nat) : Keeps s { s with toks := k } := ⟨s.heap, k, rfl, fun _ _ e => e⟩
theorem k0 (s : Shared) : Keeps s s := kt s s.toks
theorem Keeps.on {a b c : Shared} (h : Keeps a b) (h' : Keeps b c) : Keeps a c := by
  obtain ⟨x, n, rfl, k⟩ := h
  obtain ⟨y, m, rfl, k'⟩ := h'
  exact ⟨y, m, rfl, fun i o e => k' i o (k i o e)⟩
section
variable {X : Cx} {sc : Scope} {H : Hp} {Γ : List (Str × V)} {a b : Expr} {pos : Pos}
theorem pu_var {y : Str} {v : V} (h : Γ.lookup y = some v) (hd : (y == ("__debug__" : Str)) = false := by decide) (hcd : (y == ("__classdict__" : Str)) = false := by decide) : PU X sc H Γ (.Name y pos) v := by
  intro ce B t F R S q
  obtain ⟨u, r, l⟩ := S.var y v h
  have fk : ce.scope.kind = .function := by rw [S.eqs]; exact S.fn
  rcases l with ⟨hl, m, hn, hm⟩ | ⟨hl, c, hc, ho⟩
  · exact wpAny_Name (wpAny_loadName_local fk (show ce.scope.names.lookup y = some .local by rw [S.eqs]; exact hl) hn hm (q u t r (k0 t))) hd
  · exact wpAny_Name (wpAny_loadName_free fk (show ce.scope.names.lookup y = some .free by rw [S.eqs]; exact hl) hc ho (q u t r (k0 t)) hcd) hd
theorem pu_int {i : Int} {j : Nat} : PU X sc H Γ (.Constant (.int i) j pos) (.int i) := fun ce B t F R S q => wpAny_Constant_int (q _ _ ⟨_, rfl⟩ (kt t _))
/-- two ints are compared -/
theorem pu_cmp {op : CmpOp} {g : Int → Int → Bool} {i j : Int} (rule : ∀ (B : Around) (i j : Int) (t u : Tok) (s : Shared) (Q : Value → Shared → Prop) (E : Value → Shared → Prop), Q (.bool (g i j)) s → wpAny (model X.prog X.w) B (compareOp op (.int i t) (.int j u)) Q E s)
    (ha : PU X sc H Γ a (.int i)) (hb : PU X sc H Γ b (.int j)) (hm : behindInMarks op b = false := by rfl) : PU X sc H Γ (.Compare a [op] [b] pos) (.bl (g i j)) := by
  intro ce B t F R S q
  refine wpAny_Compare1 (ha ce B t F _ S fun u t1 r1 k1 => hb ce B t1 F _ (S.keeps k1) fun w t2 r2 k2 => ?_) hm
  obtain ⟨_, rfl⟩ := r1
  obtain ⟨_, rfl⟩ := r2
  exact rule _ _ _ _ _ _ _ _ (q _ _ rfl (Keeps.on k1 k2))
theorem pu_lt {i j : Int} (ha : PU X sc H Γ a (.int i)) (hb : PU X sc H Γ b (.int j)) : PU X sc H Γ (.Compare a [.Lt] [b] pos) (.bl (decide (i < j))) := pu_cmp (g := fun i j => decide (i < j)) (fun _ _ _ _ _ _ _ _ q => lt_int q) ha hb (nomark _)
theorem pu_eqI {i j : Int} (ha : PU X sc H Γ a (.int i)) (hb : PU X sc H Γ b (.int j)) : PU X sc H Γ (.Compare a [.Eq] [b] pos) (.bl (decide (i = j))) := by
  intro ce B t F R S q
  refine wpAny_Compare1 (ha ce B t F _ S fun u t1 r1 k1 => hb ce B t1 F _ (S.keeps k1) fun w t2 r2 k2 => ?_) (nomark _)
  obtain ⟨_, rfl⟩ := r1
  obtain ⟨_, rfl⟩ := r2
  exact eq_int (q _ _ (by show _ = _; congr 1) (Keeps.on k1 k2))
theorem pu_sub {i j : Int} (ha : PU X sc H Γ a (.int i)) (hb : PU X sc H Γ b (.int j)) : PU X sc H Γ (.BinOp a .Sub b pos) (.int (i - j)) := by
  intro ce B t F R S q
  refine wpAny_BinOp (ha ce B t F _ S fun u t1 r1 k1 => hb ce B t1 F _ (S.keeps k1) fun w t2 r2 k2 => ?_)
  obtain ⟨_, rfl⟩ := r1
  obtain ⟨_, rfl⟩ := r2
  exact sub_int (q _ _ ⟨_, rfl⟩ (Keeps.on (Keeps.on k1 k2) (kt t2 _)))
theorem pu_non {j : Nat} : PU X sc H Γ (.Constant .none j pos) .non := fun ce B t F R S q => Constant_none (q _ _ rfl (k0 t))
/-- a is not None -/
theorem pu_notN {v : V} {j : Nat} {p : Pos} (ha : PU X sc H Γ a v) : PU X sc H Γ (.Compare a [.IsNot] [.Constant .none j p] pos) (.bl (!decide (v = .non))) := by
  intro ce B t F R S q
  refine wpAny_Compare1 (ha ce B t F _ S fun u t1 r1 k1 => Constant_none (isnot_none_gen (q _ _ ?_ k1))) rfl
  cases v <;> first
    | (cases r1; rfl)
    | (obtain ⟨t, rfl⟩ := r1; rfl)
theorem pu_one {op : BoolOp} {v : V} (ha : PU X sc H Γ a v) : PU X sc H Γ (.BoolOp op [a] pos) v := fun ce B t F R S q => BoolOp_one (ha ce B t F R S q)
theorem pu_and {rest : List Expr} {c r : Bool} (ha : PU X sc H Γ a (.bl c)) (hb : c = true → PU X sc H Γ (.BoolOp .And (b :: rest) pos) (.bl r)) : PU X sc H Γ (.BoolOp .And (a :: b :: rest) pos) (.bl (c && r)) := by
  intro ce B t F R S q
  refine BoolOp_and (ha ce B t F _ S fun u t1 r1 k1 => ?_)
  cases r1
  refine wpAny_truthy_bool ?_
  cases c with
  | true => exact hb rfl ce B t1 F R (S.keeps k1) fun u t2 r2 k2 => q u t2 r2 (Keeps.on k1 k2)
  | false => exact q _ _ rfl k1
/-- an item of a list, by a place from 0 on -/
theorem pu_ix {p : Addr} {xs : List V} {i : Nat} {v : V} (ha : PU X sc H Γ a (.ref p)) (hb : PU X sc H Γ b (.int (i : Int))) (hl : SqL X.K H p xs) (hi : xs[i]? = some v) (hs : PlainIx b := by exact fun _ _ => rfl) : PU X sc H Γ (.Subscript a b pos) v := by
  intro ce B t F R S q
  refine Subscript_ (ha ce B t F _ S fun u t1 r1 k1 => hb ce B t1 F _ (S.keeps k1) fun w t2 r2 k2 => ?_)
  cases r1
  obtain ⟨_, rfl⟩ := r2
  have S2 := (S.keeps k1).keeps k2
  obtain ⟨its, r, pl, hz⟩ := S2.list hl
  obtain ⟨x, ex, rx⟩ := r.get hi
  have hn := line63
  have hlt : i < xs.length := (List.getElem?_eq_some_iff.mp hi).1
  exact item_listR pl.isList (by omega) (by omega) (by simpa using ex) (q _ _ rx (Keeps.on k1 k2)) (hs _ _)
/-- len of a list -/
theorem pu_len {p : Addr} {xs : List V} {np : Pos} (ha : PU X sc H Γ a (.ref p)) (hl : SqL X.K H p xs) (hg : sc.names.lookup ("len" : Str) = some .globalImplicit) (hm : X.mg "len" = none)
    (he : ∀ ce : Env, starEach [a] ce = (false, eval a ce) :: starEach [] ce := by exact fun _ => rfl) : PU X sc H Γ (.Call (.Name "len" np) [a] [] pos) (.int xs.length) := by
  intro ce B t F R S q
  obtain ⟨mb, h1, h2⟩ := S.mod.blt
  refine wpAny_Call_Name_kw (Calls.Name_function_global (by rw [S.eqs]; exact S.fn) (show ce.scope.names.lookup ("len" : Str) = some .globalImplicit by rw [S.eqs]; exact hg)
    (Calls.loadGlobal_builtin (by rw [S.gl]; exact S.mod.glob.keeps S.bs) hm (by rw [S.bl]; exact h1.keeps S.bs) ((h2 "len" (by decide)).trans boot_len) ?_) (by decide))
  refine PyProof.Rows.callWith_builtin1 ?_ (he ce) rfl
  rw [he ce]
  refine Calls.spliced_cons (ha ce B t F _ S fun u t1 r1 k1 => Calls.spliced_nil ?_)
  cases r1
  obtain ⟨its, r, pl, hz⟩ := (S.keeps k1).list hl
  have hn := line63
  have e := r.length
  exact Calls.call_len_list pl.isList (by simp only [List.size_toArray] <;> omega) (q _ _ ⟨_, by rw [List.size_toArray, e]⟩ (Keeps.on k1 (kt t1 _)))
end
end LE
-- GA
/-! any and all of a generator expression over a list, its element reckoned by GL -/
namespace LE
open PySem PySem.Spec PyProof.Rows L2
open GxR (TabB TabG Tabbed GenS)
theorem pair_of_lookup {α : Type} : ∀ {l : List (Str × α)} {y : Str} {v : α}, l.lookup y = some v → (y, v) ∈ l
  | (k, w) :: r, y, v, h => by
    rw [List.lookup_cons] at h
    cases e : y == k with
    | true =>
      rw [e] at h
      have e2 : y = k := by simpa using e
      cases h
      rw [e2]
      exact List.mem_cons_self
    | false =>
      rw [e] at h
      exact List.mem_cons_of_mem _ (pair_of_lookup h)
/-- what is asked of the expression's scope, to be seen by looking -/
structure GOK (ds sc : Scope) (x : Str) : Prop where
  kind : sc.kind = .function
  co : sc.isCoroutine = false
  cell : ∀ y ∈ sc.names, y.2 ≠ .cell
  dot : sc.names.lookup (".0" : Str) = some NameKind.local
  loc : sc.names.lookup x = some .local
  kin : ∀ y ∈ sc.names, y.2 = .free → ds.names.lookup y.1 = some .cell ∨ ds.names.lookup y.1 = some .free
instance {ds sc : Scope} {x : Str} : Decidable (GOK ds sc x) :=
  decidable_of_iff (sc.kind = .function ∧ sc.isCoroutine = false ∧ (∀ y ∈ sc.names, y.2 ≠ .cell) ∧ sc.names.lookup (".0" : Str) = some NameKind.local ∧ sc.names.lookup x = some .local ∧ ∀ y ∈ sc.names, y.2 = .free → ds.names.lookup y.1 = some .cell ∨ ds.names.lookup y.1 = some .free)
    ⟨fun ⟨a, b, c, d, e, f⟩ => ⟨a, b, c, d, e, f⟩, fun ⟨a, b, c, d, e, f⟩ => ⟨a, b, c, d, e, f⟩⟩
def Gsc (X : Cx) (sc : Scope) (x : Str) : Prop := ∃ ds, X.env.scope = ds ∧ GOK ds sc x
theorem Gsc.gens {X : Cx} {sc : Scope} {x : Str} (g : Gsc X sc x) (ok : X.Ok) : GenS X.env sc x := by
  obtain ⟨ds, rfl, h⟩ := g
  exact ⟨h.kind, h.co, h.cell, h.dot, h.loc, fun y hy e => ok.has _ (h.kin y hy e)⟩
/-- the names of the def that the element sees, and what they hold -/
def Seen (X : Cx) (σ : L2.St) (sc : Scope) (Γ : List (Str × V)) : Prop :=
  ∀ y v, Γ.lookup y = some v → ∃ i : Nat, X.N[i]? = some y ∧ σ[i]? = some (some v) ∧ (X.env.scope.names.lookup y = some .cell ∨ X.env.scope.names.lookup y = some .free) ∧ sc.names.lookup y = some .free
theorem seen_nil {X : Cx} {σ : L2.St} {sc : Scope} : Seen X σ sc [] := fun _ _ h => nomatch h
theorem seen_cons {X : Cx} {σ : L2.St} {sc : Scope} {Γ : List (Str × V)} {y : Str} {v : V} (i : Nat) (hN : X.N[i]? = some y) (hσ : σ[i]? = some (some v)) (hk : X.env.scope.names.lookup y = some .cell ∨ X.env.scope.names.lookup y = some .free) (hf : sc.names.lookup y = some .free)
    (r : Seen X σ sc Γ) : Seen X σ sc ((y, v) :: Γ) := fun z w h => by
  rw [List.lookup_cons] at h
  cases e : z == y with
  | true =>
    rw [e] at h
    cases h
    rw [show z = y by simpa using e]
    exact ⟨i, hN, hσ, hk, hf⟩
  | false =>
    rw [e] at h
    exact r z w h
/-- a generator that is ready, of n turns, the j-th one true as tr says -/
def Rdy (X : Cx) (pins : List (Addr × Obj)) (σ : L2.St) (H1 : Hp) (P : Addr) (n : Nat) (tr : Nat → Bool) (g : Addr) (s5 : Shared) : Prop :=
  ∃ (fp wr : List Addr) (G : Array GenState → Array GenState → Prop) (F : Nat → Value → Prop) (St : Nat → Shared → Prop),
    WalksS X.prog X.w X.A.in1 g fp wr G n F St ∧ St 0 s5 ∧ TruthOf X.prog X.w X.A.in1 F tr ∧ ∀ s', Moved wr G s5 s' → ∃ H2, Tabbed P H1 H2 ∧ Inv X pins σ H2 s'
section
variable {X : Cx} {pins : List (Addr × Obj)} {σ : L2.St} {H : Hp} {s : Shared}
/-- the expression's code object: found, or made and put behind the table -/
theorem code_step {c P : Addr} {pos : Pos} {q : Str} {sc : Scope} {ps : Array Value} {R : Value → Shared → Prop} {E : Value → Shared → Prop} {A : Around} {M : Model} {t : Shared} (hcode : X.env.code = .ref c) (cd : PySem.W.CodeHd t.heap c P)
    (hP : t.heap.get? P = some { cls := .none, data := .fields ps }) (ht : TriplesOk ps.toList)
    (go : ∀ (code : Value) (h3 : Heap) (tk : Nat) (more : Array Value), Heap.ExtBut P t.heap h3 → t.heap.objs.size ≤ h3.objs.size → h3.get? P = some { cls := .none, data := .fields (ps ++ more) } → TriplesOk (ps ++ more).toList → R code { t with heap := h3, toks := tk }) :
    wpAny M A (genexprCode X.env pos q sc) R E t := by
  cases e : codeAmong pos ps.toList with
  | some v =>
    refine PySem.wpAny_genexprCode_hit hcode (cd.code hP ht) e ?_
    have z := go v t.heap t.toks #[] (Heap.ExtBut.refl _ _) (Nat.le_refl _) (by rw [Array.append_empty]; exact hP) (by rw [Array.append_empty]; exact ht)
    exact z
  | none =>
    refine PySem.wpAny_genexprCodeX hcode (cd.code hP ht) (cd.tab hP) e fun d h3 tk x ge lt ic _ it _ => go _ h3 tk _ x (Nat.le_trans ge (Nat.le_of_lt lt)) it.2 ?_
    obtain ⟨_, _, _, _, _, _, _, _, _, _, _, _, _, _, _, _, _, _, _, tr, _⟩ := ic
    exact tr
/-- .. for x in a list -/
theorem gen_list {c P : Addr} {elt iter : Expr} {x : Str} {px gpos : Pos} {sc : Scope} {te : TE} {k : Nat} {Q' : Value → Shared → Prop} {R : Nat → (Nat → Bool) → Hp → Prop}
    (hr : Room k X.A) (TB : TabB X.base X.mg c P) (hcode : X.env.code = .ref c) (S : GenS X.env sc x) (hi : PE X iter te) (hs : ∀ v, genFold iter X.env v = pure v) (I : Inv X pins σ H s)
    (h : te σ H fun v H1 => ∃ (a : Addr) (xs : List V) (tr : Nat → Bool) (Γ : List (Str × V)), v = .ref a ∧ SqL X.K H1 a xs ∧ TabG H1 P ∧ Seen X σ sc Γ ∧ (∀ j w, xs[j]? = some w → PU X sc H1 ((x, w) :: Γ) elt (.bl (tr j))) ∧ R xs.length tr H1)
    (hQ : ∀ n tr H1 g s5, R n tr H1 → Rdy X pins σ H1 P n tr g s5 → Q' (.ref g) s5) :
    wpAny (model X.prog X.w) X.A (eval (.GeneratorExp elt [⟨.Name x px, iter, [], 0⟩] sc gpos) X.env) Q' X.xe s := by
  refine wpAny_GeneratorExp_walksQ hr.hd S.co (closure_ok S.free) S.cell S.dot S.loc S.kind (by have := hr.dp; omega) ?_ hs
  refine thn (hi.run pins s σ H _ I h) fun u s1 ⟨v, H1, I1, r1, a, xs, tr, Γ, ev, hl, ⟨ps, hP, ht⟩, sn, hel, hR⟩ => ?_
  subst ev
  cases (show u = Value.ref a from r1)
  obtain ⟨its, rv, pl, hz⟩ := I1.list hl
  have nlen := rv.length
  refine wpAny_pyIter_list pl.isList ?_
  -- the iterator stands behind all else
  have kp : ∀ b o, s1.heap.get? b = some o → (s1.heap.push { cls := .type "list_iterator", data := .fields #[.ref a, .int 0 0] }).get? b = some o := fun b o e => Heap.get?_push_of_some _ e
  have oP : s1.heap.get? P = some { cls := .none, data := .fields ps } := I1.hok P _ hP
  have nl2 : (s1.heap.push { cls := .type "list_iterator", data := .fields #[.ref a, .int 0 0] }).NoLimit := I1.nolimit.push _
  have hsz2 : (s1.heap.push { cls := .type "list_iterator", data := .fields #[.ref a, .int 0 0] }).objs.size = s1.heap.objs.size + 1 := Heap.size_push ..
  have itA : (s1.heap.push { cls := .type "list_iterator", data := .fields #[.ref a, .int 0 0] }).IsListIter s1.heap.objs.size a 0 := ⟨_, Heap.get?_push_size _ rfl, rfl, rfl⟩
  have hal : a < s1.heap.objs.size := by
    obtain ⟨o, e, _⟩ := pl.isList
    exact Heap.lt_size e
  refine ⟨nl2, code_step (ps := ps) hcode (TB.code.keeps fun b o e => kp b o (I1.bk b o e)) (kp _ _ oP) ht fun code h3 tk more ex ge hP3 ht3 => ?_⟩
  have ge : s1.heap.objs.size + 1 ≤ h3.objs.size := by
    rw [← hsz2]
    exact ge
  obtain ⟨bm, ob, e1, e2, e3, e4, e5, e6, e7, e8⟩ := TB.bm
  have k3 : ∀ b o, b ≠ P → s1.heap.get? b = some o → h3.get? b = some o := fun b o n e => ex b o n (kp b o e)
  refine wpAny_builtinsFor (m := X.mg) (by rw [I1.ok.glob]; exact ((I1.mod.glob.keeps I1.bk).keeps kp).extBut ex TB.gP) e1 e2 (k3 _ _ e4 (I1.bk _ _ e5)) e6 e7 e8 ?_
  have aP : a ≠ P := fun z => by
    obtain ⟨o, e, d, n, e'⟩ := pl.isList
    rw [z, oP] at e
    cases e
    cases e'
  have iP : s1.heap.objs.size ≠ P := fun z => by
    have := Heap.lt_size oP
    rw [← z] at this
    exact Nat.lt_irrefl _ this
  have cP : cStatics ≠ P := fun z => by
    obtain ⟨_, ⟨o, es, ep, ho, hd, _⟩, _⟩ := I1.nolimit
    rw [z, oP] at ho
    cases ho
    cases hd
  have cl : cStatics < s1.heap.objs.size := let ⟨_, q, _⟩ := I1.nolimit; q.lt
  refine ⟨s1.heap.objs.size, [s1.heap.objs.size, a], [s1.heap.objs.size], its.toArray.size, fun i v => its.toArray[i]? = some v, fun i h => h.IsListIter s1.heap.objs.size a i ∧ h.IsList a its.toArray, fun _ => true, fun i y => y = .bool (tr i), rfl,
    fun A' hA => Walks.list hA _ _ (Nat.ne_of_lt hal) _, ⟨itA.at fun o e => ex _ o iP e, ?_⟩, fun b hb => ?_, nl2.extBut ex cP, fun z => ?_, fun href hk => ⟨fun A' E' i v t m _ _ _ _ _ => ?_, fun A' E' i v t m hA hv _ hn hm kk => ?_⟩, fun g h5 tk5 gs bare lt5 sz5 k5 W at5 => ?_⟩
  · obtain ⟨o, e, r⟩ := pl.isList
    exact ⟨o, k3 a o aP e, r⟩
  · show b < h3.objs.size
    rcases List.mem_cons.mp hb with z | z
    · rw [z]
      exact Nat.lt_of_lt_of_le (Nat.lt_succ_self _) ge
    · rw [List.mem_singleton.mp z]
      exact Nat.lt_of_lt_of_le (Nat.lt_succ_of_lt hal) ge
  · have z2 := List.mem_singleton.mp z
    rw [z2] at cl
    exact Nat.lt_irrefl _ cl
  · rw [List.forIn_nil]
    exact wpAny_pure ⟨rfl, k0 t⟩
  · -- one element
    have up : ∀ b o, b ≠ P → s1.heap.get? b = some o → t.heap.get? b = some o := fun b o n e => by
      have lb := Heap.lt_size e
      refine kk b (List.mem_range.mpr (show b < h3.objs.size from Nat.lt_of_lt_of_le (Nat.lt_succ_of_lt lb) ge)) (fun y => ?_) o (hk b o (k3 b o n e))
      rw [List.mem_singleton.mp y] at lb
      exact Nat.lt_irrefl _ lb
    have hv' : its[i]? = some v := by simpa using hv
    obtain ⟨w, ew, rw'⟩ : ∃ w, xs[i]? = some w ∧ RelV w v := by
      have lt : i < xs.length := by
        rw [nlen]
        exact (List.getElem?_eq_some_iff.mp hv').1
      obtain ⟨y, ey, ry⟩ := rv.get (List.getElem?_eq_getElem lt)
      rw [hv'] at ey
      cases ey
      exact ⟨_, List.getElem?_eq_getElem lt, ry⟩
    refine hel i w ew _ A' t E' _ ?_ fun u t' ru ku => ⟨ru, ku⟩
    refine ⟨S.kind, rfl, I1.ok.glob, rfl, I1.mod, fun b o e => up b o (fun z => ?_) (I1.bk b o e), fun b o e n => (I1.hok b o e).stay (fun d y hd ey => up d y (fun z => ?_) ey) (fun _ y => y) fun _ _ y => y, fun y v' e => ?_⟩
    · have := (I1.bs b o e).2
      rw [z, hP] at this
      cases this
    · rcases hd with q | q
      · rw [← q, z, hP] at e
        exact n ps (Option.some.inj e).symm
      · rw [z, hP] at q
        cases q
    · rw [List.lookup_cons] at e
      cases b : y == x with
      | true =>
        rw [b] at e
        have e' : y = x := by simpa using b
        cases e
        exact ⟨v, rw', .inl ⟨by rw [e']; exact S.loc, m, hn, by rw [e']; exact hm⟩⟩
      | false =>
        rw [b] at e
        obtain ⟨j, hN, hσ, hv2, hf⟩ := sn y v' e
        obtain ⟨m1, _, hl1⟩ := I1.loc
        obtain ⟨u, ru, lk⟩ := hl1 j y v' hN hσ (.inr hv2)
        rcases lk with ⟨q1, _⟩ | ⟨_, cc, hc, hcell⟩
        · have q1' : X.env.scope.names.lookup y = some .local := q1
          rcases hv2 with q2 | q2 <;> (rw [q1'] at q2; cases q2)
        · obtain ⟨oc, ec, dc⟩ := hcell
          refine ⟨u, ru, .inr ⟨hf, cc, NdefX.clo_has S.free (pair_of_lookup hf) hc, oc, up cc oc (fun z => ?_) ec, dc⟩⟩
          rw [z, oP] at ec
          cases ec
          cases dc
  · -- behind its making
    simp only [GxR.passing_true, List.length_range] at W
    have en : its.toArray.size = xs.length := by rw [List.size_toArray, nlen]
    refine hQ its.toArray.size tr H1 g _ (by rw [en]; exact hR) ⟨_, _, _, _, _, W.in4_1, at5, fun j y sj Qj Ej hy hq => ?_, fun s' mv => ?_⟩
    · obtain ⟨i, hij, rfl⟩ := hy
      obtain ⟨_, ej⟩ := List.getElem?_eq_some_iff.mp hij
      rw [List.getElem_range] at ej
      rw [← ej]
      exact wpAny_truthy_bool hq
    · have out : ∀ b o, s1.heap.get? b = some o → b ∉ h3.objs.size :: [s1.heap.objs.size] := fun b o e y => by
        have lb := Heap.lt_size e
        rcases List.mem_cons.mp y with z | z
        · rw [z] at lb
          have : (h3.objs.size : Nat) < s1.heap.objs.size := lb
          omega
        · rw [List.mem_singleton.mp z] at lb
          exact Nat.lt_irrefl _ lb
      have J := GxR.inv_tab (more := more) (h' := s'.heap) (g' := s'.gens) (d' := s'.drawn) (t' := s'.toks) I1 hP (fun b o n e => mv.heap b o (out b o e) (k5 b o (k3 b o n e))) (mv.heap P _ (out P _ oP) (k5 P _ hP3)) (AllBare.movedS (I1.bare.push bare) mv)
      rw [GxR.sh_eta s1 s' mv.os] at J
      exact ⟨_, ⟨⟨_, upd_same, ht3⟩, fun b n => upd_ne n⟩, J⟩
/-- any(test for x in a list), all(..) -/
def tGenL (X : Cx) (P : Addr) (x : Str) (sc : Scope) (elt : Expr) (fold : Nat → (Nat → Bool) → Bool) (te : TE) : TE := fun σ H Q => te σ H fun v H1 => ∃ (a : Addr) (xs : List V) (tr : Nat → Bool) (Γ : List (Str × V)), v = .ref a ∧ SqL X.K H1 a xs ∧ TabG H1 P ∧
  Seen X σ sc Γ ∧ (∀ j w, xs[j]? = some w → PU X sc H1 ((x, w) :: Γ) elt (.bl (tr j))) ∧ ∀ H2, Tabbed P H1 H2 → Q (.bl (fold xs.length tr)) H2
def anyTo (n : Nat) (tr : Nat → Bool) : Bool := (List.range n).any tr
def allTo (n : Nat) (tr : Nat → Bool) : Bool := (List.range n).all tr
section
variable {c P : Addr} {elt iter : Expr} {x : Str} {px p pos gpos : Pos} {sc : Scope} {te : TE} {k : Nat}
theorem pe_anyL (hr : Room k X.A) (hg : Gl X "any") (hm : X.mg "any" = none) (TB : TabB X.base X.mg c P) (hcode : X.env.code = .ref c) (S : Gsc X sc x) (hi : PE X iter te) (hs : ∀ v, genFold iter X.env v = pure v)
    (he : starEach [.GeneratorExp elt [⟨.Name x px, iter, [], 0⟩] sc gpos] X.env = (false, eval (.GeneratorExp elt [⟨.Name x px, iter, [], 0⟩] sc gpos) X.env) :: starEach [] X.env := by rfl) :
    PE X (.Call (.Name "any" p) [.GeneratorExp elt [⟨.Name x px, iter, [], 0⟩] sc gpos] [] pos) (tGenL X P x sc elt anyTo te) := by
  refine ⟨fun pins s σ H Q I h => wpAny_Call_Name_kw (ld_blt I hg hm boot_any (PyProof.Rows.callWith_builtin1 ?_ he (by rfl)))⟩
  rw [he]
  refine Calls.spliced_cons (gen_list (R := fun n tr H1 => ∀ H2, Tabbed P H1 H2 → Q (.bl (anyTo n tr)) H2) hr TB hcode (S.gens I.ok) hi hs I h fun n tr H1 g s5 hR ⟨fp, wr, G, F, sq, W, h0, tt, aft⟩ => Calls.spliced_nil ?_)
  refine call_any_walkS (W.self 0 _ _ _ h0 ⟨g, fp, wr, G, _, F, sq, _, rfl, W, h0, tt, fun s' mv => ?_⟩)
  obtain ⟨H2, T, J⟩ := aft s' mv
  exact ⟨.bl _, H2, J, rfl, hR H2 T⟩
theorem pe_allL (hr : Room k X.A) (hg : Gl X "all") (hm : X.mg "all" = none) (TB : TabB X.base X.mg c P) (hcode : X.env.code = .ref c) (S : Gsc X sc x) (hi : PE X iter te) (hs : ∀ v, genFold iter X.env v = pure v)
    (he : starEach [.GeneratorExp elt [⟨.Name x px, iter, [], 0⟩] sc gpos] X.env = (false, eval (.GeneratorExp elt [⟨.Name x px, iter, [], 0⟩] sc gpos) X.env) :: starEach [] X.env := by rfl) :
    PE X (.Call (.Name "all" p) [.GeneratorExp elt [⟨.Name x px, iter, [], 0⟩] sc gpos] [] pos) (tGenL X P x sc elt allTo te) := by
  refine ⟨fun pins s σ H Q I h => wpAny_Call_Name_kw (ld_blt I hg hm (by decide +kernel : bootBuiltins "all" = some (.builtin "all")) (PyProof.Rows.callWith_builtin1 ?_ he (by rfl)))⟩
  rw [he]
  refine Calls.spliced_cons (gen_list (R := fun n tr H1 => ∀ H2, Tabbed P H1 H2 → Q (.bl (allTo n tr)) H2) hr TB hcode (S.gens I.ok) hi hs I h fun n tr H1 g s5 hR ⟨fp, wr, G, F, sq, W, h0, tt, aft⟩ => Calls.spliced_nil ?_)
  refine call_all_walkS (W.self 0 _ _ _ h0 ⟨g, fp, wr, G, _, F, sq, _, rfl, W, h0, tt, fun s' mv => ?_⟩)
  obtain ⟨H2, T, J⟩ := aft s' mv
  exact ⟨.bl _, H2, J, rfl, hR H2 T⟩
end
end
end LE
-- GB
/-! any and all of a generator expression over enumerate(a list) -/
namespace LE
open PySem PySem.Spec PyProof.Rows L2
open GxR (TabB TabG Tabbed GenS)
section
variable {X : Cx} {pins : List (Addr × Obj)} {σ : L2.St} {H : Hp} {s : Shared}
/-- what the element sees, from what stands where the generator is made -/
theorem site_of {P : Addr} {ps : Array Value} {sc : Scope} {x : Str} {Γ L : List (Str × V)} {ce : Env} {s1 t : Shared} {H1 : Hp} {m : Str → Option Value} (S : GenS X.env sc x) (I1 : Inv X pins σ H1 s1) (hP : H1 P = some (.tbl ps)) (sn : Seen X σ sc Γ)
    (up : ∀ b o, b ≠ P → s1.heap.get? b = some o → t.heap.get? b = some o) (es : ce.scope = sc) (eg : ce.globals = mainGlobals) (eb : ce.builtins = builtinsNs) (ec : ce.cells = cloFrom X.env.cells sc.names [])
    (hn : t.heap.Ns ce.locals m) (loc : ∀ y v, L.lookup y = some v → sc.names.lookup y = some .local ∧ ∃ u, RelV v u ∧ m y = some u) : Site X sc H1 (L ++ Γ) ce t := by
  have oP : s1.heap.get? P = some { cls := .none, data := .fields ps } := I1.hok P _ hP
  refine ⟨S.kind, es, eg, eb, I1.mod, fun b o e => up b o (fun z => ?_) (I1.bk b o e), fun b o e n => (I1.hok b o e).stay (fun d y hd ey => up d y (fun z => ?_) ey) (fun _ y => y) fun _ _ y => y, fun y v e => ?_⟩
  · have := (I1.bs b o e).2
    rw [z, hP] at this
    cases this
  · rcases hd with q | q
    · rw [← q, z, hP] at e
      exact n ps (Option.some.inj e).symm
    · rw [z, hP] at q
      cases q
  · have split : ∀ L : List (Str × V), (L ++ Γ).lookup y = some v → L.lookup y = some v ∨ Γ.lookup y = some v := fun L => by
      induction L with
      | nil => exact fun z => .inr z
      | cons p r ih =>
        intro z
        rw [List.cons_append, List.lookup_cons] at z
        rw [List.lookup_cons]
        cases q : y == p.1 with
        | true =>
          rw [q] at z
          exact .inl z
        | false =>
          rw [q] at z
          exact ih z
    rcases split L e with e | e
    · obtain ⟨hl, u, ru, hm⟩ := loc y v e
      exact ⟨u, ru, .inl ⟨hl, m, hn, hm⟩⟩
    · obtain ⟨j, hN, hσ, hv2, hf⟩ := sn y v e
      obtain ⟨m1, _, hl1⟩ := I1.loc
      obtain ⟨u, ru, lk⟩ := hl1 j y v hN hσ (.inr hv2)
      rcases lk with ⟨q1, _⟩ | ⟨_, cc, hc, hcell⟩
      · have q1' : X.env.scope.names.lookup y = some .local := q1
        rcases hv2 with q2 | q2 <;> (rw [q1'] at q2; cases q2)
      · obtain ⟨oc, e1, dc⟩ := hcell
        refine ⟨u, ru, .inr ⟨hf, cc, by rw [ec]; exact NdefX.clo_has S.free (pair_of_lookup hf) hc, oc, up cc oc (fun z => ?_) e1, dc⟩⟩
        rw [z, oP] at e1
        cases e1
        cases dc
theorem gen_enum {c P : Addr} {elt e : Expr} {xa xb : Str} {pa pb pt ep np gpos : Pos} {kt : Nat} {sc : Scope} {ta : TA} {k : Nat} {Q' : Value → Shared → Prop} {R : Nat → (Nat → Bool) → Hp → Prop}
    (hr : Room k X.A) (TB : TabB X.base X.mg c P) (hcode : X.env.code = .ref c) (S : GenS X.env sc xa) (hb : sc.names.lookup xb = some .local) (hab : xa ≠ xb) (hg : Gl X "enumerate") (hm : X.mg "enumerate" = none) (hi : PA X [e] ta)
    (hst : starEach [e] X.env = [(false, eval e X.env)]) (hs : ∀ v, genFold (.Call (.Name "enumerate" np) [e] [] ep) X.env v = pure v) (I : Inv X pins σ H s)
    (h : ta σ H fun vs H1 => ∃ (a : Addr) (xs : List V) (tr : Nat → Bool) (Γ : List (Str × V)), vs = [.ref a] ∧ SqL X.K H1 a xs ∧ TabG H1 P ∧ Seen X σ sc Γ ∧ (∀ j w, xs[j]? = some w → PU X sc H1 ([(xb, w), (xa, .int (j : Int))] ++ Γ) elt (.bl (tr j))) ∧ R xs.length tr H1)
    (hQ : ∀ n tr H1 g s5, R n tr H1 → Rdy X pins σ H1 P n tr g s5 → Q' (.ref g) s5) :
    wpAny (model X.prog X.w) X.A (eval (.GeneratorExp elt [⟨.Tuple [.Name xa pa, .Name xb pb] kt pt, .Call (.Name "enumerate" np) [e] [] ep, [], 0⟩] sc gpos) X.env) Q' X.xe s := by
  refine wpAny_GeneratorExp_walksQT hr.hd S.co (closure_ok S.free) S.cell S.dot S.loc hb hab S.kind (by have := hr.dp; omega) ?_ hs
  refine Call_ (ld_blt I hg hm boot_enumerate (PyProof.Rows.callWith_type1 (thn (hi.run ep pins s σ H _ I h) fun us s1 ⟨vs, H1, I1, r1, a, xs, tr, Γ, ev, hl, ⟨ps, hP, ht⟩, sn, hel, hR⟩ => ?_) hst rfl))
  subst ev
  obtain ⟨u, rfl, r2⟩ := vals1 r1
  cases (show u = Value.ref a from r2)
  obtain ⟨its, rv, pl, hz⟩ := I1.list hl
  have nlen := rv.length
  have oP : s1.heap.get? P = some { cls := .none, data := .fields ps } := I1.hok P _ hP
  have hal : a < s1.heap.objs.size := by
    obtain ⟨o, q, _⟩ := pl.isList
    exact Heap.lt_size q
  refine call_enumerate_list pl.isList fun h2 en2 it2 sz2 kp => wpAny_pyIter_enum en2 ?_
  have nl2 : h2.NoLimit := I1.nolimit.keeps kp
  refine ⟨nl2, code_step (ps := ps) hcode (TB.code.keeps fun b o q => kp b o (I1.bk b o q)) (kp _ _ oP) ht fun code h3 tk more ex ge hP3 ht3 => ?_⟩
  have ge : s1.heap.objs.size + 2 ≤ h3.objs.size := by
    rw [← sz2]
    exact ge
  obtain ⟨bm, ob, e1, e2, e3, e4, e5, e6, e7, e8⟩ := TB.bm
  have k3 : ∀ b o, b ≠ P → s1.heap.get? b = some o → h3.get? b = some o := fun b o n q => ex b o n (kp b o q)
  refine wpAny_builtinsFor (m := X.mg) (by rw [I1.ok.glob]; exact ((I1.mod.glob.keeps I1.bk).keeps kp).extBut ex TB.gP) e1 e2 (k3 _ _ e4 (I1.bk _ _ e5)) e6 e7 e8 ?_
  have aP : a ≠ P := fun z => by
    obtain ⟨o, q, d, n, q'⟩ := pl.isList
    rw [z, oP] at q
    cases q
    cases q'
  have Plt : P < s1.heap.objs.size := Heap.lt_size oP
  have nP : ∀ b : Addr, s1.heap.objs.size ≤ b → b ≠ P := fun b q z => by
    rw [z] at q
    exact absurd (Nat.lt_of_lt_of_le Plt q) (Nat.lt_irrefl _)
  have cP : cStatics ≠ P := fun z => by
    obtain ⟨_, ⟨o, es, q, ho, hd, _⟩, _⟩ := I1.nolimit
    rw [z, oP] at ho
    cases ho
    cases hd
  have cl : cStatics < s1.heap.objs.size := let ⟨_, q, _⟩ := I1.nolimit; q.lt
  have young : ∀ b, b ∈ [s1.heap.objs.size + 1, s1.heap.objs.size] → s1.heap.objs.size ≤ b := fun b q => by
    rcases List.mem_cons.mp q with z | z
    · rw [z]; exact Nat.le_succ _
    · rw [List.mem_singleton.mp z]; exact Nat.le_refl _
  refine ⟨s1.heap.objs.size + 1, [s1.heap.objs.size + 1, s1.heap.objs.size, a], [s1.heap.objs.size + 1, s1.heap.objs.size], its.toArray.size, fun i vals => ∃ t x, its.toArray[i]? = some x ∧ vals = #[.int i t, x], _, _, fun _ => true, fun i y => y = .bool (tr i), rfl,
    fun A' hA => (WalksT.enumerate hA _ _ _ (Nat.succ_ne_self _) (Nat.ne_of_lt (Nat.lt_succ_of_lt hal)) (Nat.ne_of_lt hal) its.toArray).toU, fun i vals ⟨t, x, _, q⟩ => ⟨_, _, q⟩, ⟨⟨.none, ex _ _ (nP _ (Nat.le_succ _)) en2⟩, it2.at fun o q => ex _ o (nP _ (Nat.le_refl _)) q, ?_⟩, fun b hb2 => ?_, nl2.extBut ex cP, fun z => ?_,
    fun href hk => ⟨fun A' E' i va vb t m _ _ _ _ _ _ => ?_, fun A' E' i va vb t m hA hv _ hn hm1 hm2 kk => ?_⟩, fun g h5 tk5 gs bare lt5 sz5 k5 W at5 => ?_⟩
  · obtain ⟨o, q, r⟩ := pl.isList
    exact ⟨o, k3 a o aP q, r⟩
  · show b < h3.objs.size
    rcases List.mem_cons.mp hb2 with z | z
    · rw [z]
      exact Nat.lt_of_lt_of_le (Nat.lt_succ_self _) ge
    · rcases List.mem_cons.mp z with z | z
      · rw [z]
        exact Nat.lt_of_lt_of_le (Nat.lt_succ_of_lt (Nat.lt_succ_self _)) ge
      · rw [List.mem_singleton.mp z]
        exact Nat.lt_of_lt_of_le (Nat.lt_succ_of_lt (Nat.lt_succ_of_lt hal)) ge
  · exact absurd (Nat.lt_of_lt_of_le cl (young _ z)) (Nat.lt_irrefl _)
  · rw [List.forIn_nil]
    exact wpAny_pure ⟨rfl, k0 t⟩
  · have up : ∀ b o, b ≠ P → s1.heap.get? b = some o → t.heap.get? b = some o := fun b o n q => by
      have lb := Heap.lt_size q
      exact kk b (List.mem_range.mpr (show b < h3.objs.size from Nat.lt_of_lt_of_le (Nat.lt_succ_of_lt (Nat.lt_succ_of_lt lb)) ge)) (fun y => absurd (Nat.lt_of_lt_of_le lb (young _ y)) (Nat.lt_irrefl _)) o (hk b o (k3 b o n q))
    obtain ⟨tk', x, hx, ev⟩ := hv
    have ev' : va = .int i tk' ∧ vb = x := by simpa using ev
    obtain ⟨rfl, rfl⟩ := ev'
    have hv' : its[i]? = some vb := by simpa using hx
    obtain ⟨w, ew, rw'⟩ : ∃ w, xs[i]? = some w ∧ RelV w vb := by
      have lt : i < xs.length := by
        rw [nlen]
        exact (List.getElem?_eq_some_iff.mp hv').1
      obtain ⟨y, ey, ry⟩ := rv.get (List.getElem?_eq_getElem lt)
      rw [hv'] at ey
      cases ey
      exact ⟨_, List.getElem?_eq_getElem lt, ry⟩
    refine hel i w ew _ A' t E' _ (site_of S I1 hP sn up rfl I1.ok.glob rfl rfl hn fun y v q => ?_) fun u t' ru ku => ⟨ru, ku⟩
    rw [List.lookup_cons] at q
    cases b1 : y == xb with
    | true =>
      rw [b1] at q
      cases q
      rw [show y = xb by simpa using b1]
      exact ⟨hb, vb, rw', hm2⟩
    | false =>
      rw [b1, List.lookup_cons] at q
      cases b2 : y == xa with
      | true =>
        rw [b2] at q
        cases q
        rw [show y = xa by simpa using b2]
        exact ⟨S.loc, _, ⟨_, rfl⟩, hm1⟩
      | false =>
        rw [b2] at q
        cases q
  · simp only [GxR.passing_true, List.length_range] at W
    have en : its.toArray.size = xs.length := by rw [List.size_toArray, nlen]
    refine hQ its.toArray.size tr H1 g _ (by rw [en]; exact hR) ⟨_, _, _, _, _, W.in4_1, at5, fun j y sj Qj Ej hy hq => ?_, fun s' mv => ?_⟩
    · obtain ⟨i, hij, rfl⟩ := hy
      obtain ⟨_, ej⟩ := List.getElem?_eq_some_iff.mp hij
      rw [List.getElem_range] at ej
      rw [← ej]
      exact wpAny_truthy_bool hq
    · have out : ∀ b o, s1.heap.get? b = some o → b ∉ h3.objs.size :: [s1.heap.objs.size + 1, s1.heap.objs.size] := fun b o q y => by
        have lb := Heap.lt_size q
        rcases List.mem_cons.mp y with z | z
        · rw [z] at lb
          exact absurd (Nat.lt_of_le_of_lt (Nat.le_trans (Nat.le_succ _) (Nat.le_trans (Nat.le_succ _) ge)) lb) (Nat.lt_irrefl _)
        · exact absurd (Nat.lt_of_lt_of_le lb (young _ z)) (Nat.lt_irrefl _)
      have J := GxR.inv_tab (more := more) (h' := s'.heap) (g' := s'.gens) (d' := s'.drawn) (t' := s'.toks) I1 hP (fun b o n q => mv.heap b o (out b o q) (k5 b o (k3 b o n q))) (mv.heap P _ (out P _ oP) (k5 P _ hP3)) (AllBare.movedS (I1.bare.push bare) mv)
      rw [GxR.sh_eta s1 s' mv.os] at J
      exact ⟨_, ⟨⟨_, upd_same, ht3⟩, fun b n => upd_ne n⟩, J⟩
def tGenE (X : Cx) (P : Addr) (xa xb : Str) (sc : Scope) (elt : Expr) (fold : Nat → (Nat → Bool) → Bool) (ta : TA) : TE := fun σ H Q => ta σ H fun vs H1 => ∃ (a : Addr) (xs : List V) (tr : Nat → Bool) (Γ : List (Str × V)), vs = [.ref a] ∧ SqL X.K H1 a xs ∧ TabG H1 P ∧
  Seen X σ sc Γ ∧ (∀ j w, xs[j]? = some w → PU X sc H1 ([(xb, w), (xa, .int (j : Int))] ++ Γ) elt (.bl (tr j))) ∧ ∀ H2, Tabbed P H1 H2 → Q (.bl (fold xs.length tr)) H2
section
variable {c P : Addr} {elt e : Expr} {xa xb : Str} {pa pb pt ep np p pos gpos : Pos} {kt : Nat} {sc : Scope} {ta : TA} {k : Nat}
theorem pe_anyE (hr : Room k X.A) (hg : Gl X "any") (hm : X.mg "any" = none) (TB : TabB X.base X.mg c P) (hcode : X.env.code = .ref c) (S : Gsc X sc xa) (hb : sc.names.lookup xb = some .local) (hab : xa ≠ xb) (hge : Gl X "enumerate") (hme : X.mg "enumerate" = none)
    (hi : PA X [e] ta) (hst : starEach [e] X.env = [(false, eval e X.env)]) (hs : ∀ v, genFold (.Call (.Name "enumerate" np) [e] [] ep) X.env v = pure v)
    (he : starEach [.GeneratorExp elt [⟨.Tuple [.Name xa pa, .Name xb pb] kt pt, .Call (.Name "enumerate" np) [e] [] ep, [], 0⟩] sc gpos] X.env = (false, eval (.GeneratorExp elt [⟨.Tuple [.Name xa pa, .Name xb pb] kt pt, .Call (.Name "enumerate" np) [e] [] ep, [], 0⟩] sc gpos) X.env) :: starEach [] X.env := by rfl) :
    PE X (.Call (.Name "any" p) [.GeneratorExp elt [⟨.Tuple [.Name xa pa, .Name xb pb] kt pt, .Call (.Name "enumerate" np) [e] [] ep, [], 0⟩] sc gpos] [] pos) (tGenE X P xa xb sc elt anyTo ta) := by
  refine ⟨fun pins s σ H Q I h => wpAny_Call_Name_kw (ld_blt I hg hm boot_any (PyProof.Rows.callWith_builtin1 ?_ he (by rfl)))⟩
  rw [he]
  refine Calls.spliced_cons (gen_enum (R := fun n tr H1 => ∀ H2, Tabbed P H1 H2 → Q (.bl (anyTo n tr)) H2) hr TB hcode (S.gens I.ok) hb hab hge hme hi hst hs I h fun n tr H1 g s5 hR ⟨fp, wr, G, F, sq, W, h0, tt, aft⟩ => Calls.spliced_nil ?_)
  refine call_any_walkS (W.self 0 _ _ _ h0 ⟨g, fp, wr, G, _, F, sq, _, rfl, W, h0, tt, fun s' mv => ?_⟩)
  obtain ⟨H2, T, J⟩ := aft s' mv
  exact ⟨.bl _, H2, J, rfl, hR H2 T⟩
end
end
end LE
-- GN
/-! any and all of a generator expression: whatever a for may walk, whatever target, the element by any judgement (it may call defs) -/
namespace GN
open PySem PySem.Spec PyProof.Rows L2 GenW
open GxR (TabB TabG Tabbed)
/-- the context in which such an element is reckoned; the expression's frame was made at s, over the around A -/
abbrev inGen (X : Cx) (s : Shared) (H : Hp) (A : Around) (ce : Env) (fp : List Addr) : Cx :=
  { X with s_0 := s, H_0 := H, env := ce, outer := X.stack, stack := ce :: X.stack, A := A.deeper ce, ex := fp, fn := fun _ => false, calm := true, pn := [], xe := fun _ _ => False }
/-- the names: the expression's own ones with their slots, or captured ones; none that a further one captures -/
structure NmOk (N : List Str) (ds sc : Scope) (own : List (Str × Nat)) : Prop where
  blk : BlkOk N ds sc own
  co : sc.isCoroutine = false
  cell : ∀ y ∈ sc.names, y.2 ≠ .cell
  dot : sc.names.lookup (".0" : Str) = some NameKind.local
theorem nmOk_by {N : List Str} {ds sc : Scope} {own : List (Str × Nat)} (b : BlkOk N ds sc own) (c : sc.isCoroutine = false := by rfl) (d : ∀ y ∈ sc.names, y.2 ≠ .cell := by decide +kernel) (e : sc.names.lookup (".0" : Str) = some NameKind.local := by decide +kernel) : NmOk N ds sc own := ⟨b, c, d, e⟩
section
variable {X : Cx} {pins : List (Addr × Obj)} {σ : L2.St} {H : Hp} {s s5 : Shared}
/-- only the table of generators, the marks and the count of texts are others -/
theorem inv_gens {s' : Shared} (I : Inv X pins σ H s) (ho : s'.os = s.os) (hh : s'.heap = s.heap) (hb : AllBare s'.gens) : Inv X pins σ H s' := by
  obtain ⟨a1, a2, a3, a4, a5, a6, a7, a8, a9, b1, b2⟩ := I
  refine ⟨a1, ho.trans a2, hb, ?_, ?_, ?_, a7, a8, ?_, ?_, b2⟩ <;> rw [hh] <;> assumption
theorem gen_start {sc : Scope} {own : List (Str × Nat)} {fp : List Addr} {A : Around} {code : Value} {m : Str → Option Value} (I : Inv X pins σ H s) (ok : NmOk X.N X.env.scope sc own) (hN : X.N.Nodup)
    (hfp : ∀ b ∈ fp, FpOk X pins H b ∧ b < s.heap.objs.size) (fr : A.frames = some X.stack) (hd : A.handled = none) (ho : s5.os = s.os) (hb : AllBare s5.gens)
    (kp : ∀ b o, s.heap.get? b = some o → s5.heap.get? b = some o) (ns : s5.heap.Ns s.heap.objs.size m) :
    Inv (inGen X s H A (genEnv sc (cloFrom X.env.cells sc.names []) s.heap.objs.size code builtinsNs X.env) fp) [] (wipe σ (own.map (·.2))) H s5 := by
  have hfree : ∀ y ∈ sc.names, y.2 = .free → ∃ c, X.env.cells.lookup y.1 = some c := fun y hy e => I.ok.has _ (ok.blk.free y hy e)
  have cm : ∀ {y c}, (cloFrom X.env.cells sc.names []).lookup y = some c → X.env.cells.lookup y = some c ∧ c < s.heap.objs.size := fun {y c} e => by
    rcases cloFrom_mem (PySem.mem_of_lookup e) with hm | ⟨h1, rfl⟩
    · cases hm
    · obtain ⟨c, hc⟩ := hfree _ h1 rfl
      rw [hc]
      obtain ⟨w, z⟩ := I.cell _ _ hc
      exact ⟨rfl, z.lt⟩
  have look : ∀ {y}, sc.names.lookup y = some .free → ∃ c, (cloFrom X.env.cells sc.names []).lookup y = some c ∧ X.env.cells.lookup y = some c := fun {y} hl => by
    obtain ⟨c', e'⟩ := mem_lookup (cloFrom_has (cells := X.env.cells) (acc := []) (PySem.mem_of_lookup hl))
    exact ⟨c', e', (cm e').1⟩
  have okG : (inGen X s H A (genEnv sc (cloFrom X.env.cells sc.names []) s.heap.objs.size code builtinsNs X.env) fp).Ok := by
    refine ⟨I.ok.mod, ok.blk.kind, I.ok.glob, rfl, Nat.le_refl _, fun y z c e1 e2 => I.ok.inj y z c (cm e1).1 (cm e2).1, fun y hy => ?_, fun y c z _ => absurd z Bool.false_ne_true, fun _ => hd, Around.frames_deeper fr, .inr ⟨rfl, rfl⟩,
      fun b hb => ⟨Nat.ne_of_lt (hfp b hb).2, fun y c e z => (hfp b hb).1.2.2.2.2.1 y c (cm e).1 z⟩, I.bs, Nat.le_trans I.ok.bsz I.sz, fun b o e hb => ?_, fun b hb z => ?_, I.stack, I.stkFree⟩
    · have hy' : sc.names.lookup y = some .cell ∨ sc.names.lookup y = some .free := hy
      rcases hy' with hy' | hy'
      · exact absurd rfl (ok.cell _ (PySem.mem_of_lookup hy'))
      · obtain ⟨c, h1, _⟩ := look hy'
        exact ⟨c, h1⟩
    · rcases (hfp b hb).1.2.2.2.1 with z | z
      · exact I.ok.noex b o e z
      · exact absurd (Nat.lt_of_lt_of_le (Heap.lt_size e) (Nat.le_trans I.ok.bsz z)) (Nat.lt_irrefl _)
    · rcases List.mem_cons.mp (I.stkSub b z) with z | z
      · exact (hfp b hb).1.2.1 z
      · exact (hfp b hb).1.2.2.1 z
  refine ⟨okG, ho, hb, Un.kept kp, ⟨m, ns, fun i y v e1 e2 e3 => ?_⟩, fun y c e => ?_, I.hok.fresh (Nat.le_refl _), fun y c e => I.freeC y c (cm e).1, fun p hp => absurd (show p ∈ ([] : List (Addr × Obj)) ++ [] from hp) (by simp), I.hok.kept kp, by rw [wipe_length]; exact I.len⟩
  · obtain ⟨e2, hne⟩ := wipe_some e2
    have e3 : Vis sc y := e3
    have fr : sc.names.lookup y = some .free := by
      rcases e3 with e | e | e
      · rcases ok.blk.own _ (PySem.mem_of_lookup e) (.inl rfl) with e' | e'
        · obtain ⟨p, hp, hpy⟩ := List.mem_map.mp e'
          have e5 := ok.blk.ix p hp
          have : p.1 = y := hpy
          rw [this] at e5
          exact absurd (List.mem_map.mpr ⟨p, hp, nodup_ix hN e5 e1⟩) hne
        · exact absurd (List.mem_of_getElem? e1) e'
      · exact absurd rfl (ok.cell _ (PySem.mem_of_lookup e))
      · exact e
    obtain ⟨m1, _, hl⟩ := I.loc
    have hvis : Vis X.env.scope y := .inr (ok.blk.free _ (PySem.mem_of_lookup fr) rfl)
    obtain ⟨w, r, q⟩ := hl i y v e1 e2 hvis
    obtain ⟨c, h1, h2⟩ := look fr
    refine ⟨w, r, .inr ⟨.inr fr, c, h1, ?_⟩⟩
    rcases q with ⟨k, _⟩ | ⟨_, c', e', z⟩
    · have k : X.env.scope.names.lookup y = some .local := k
      rcases ok.blk.free _ (PySem.mem_of_lookup fr) rfl with k' | k' <;> rw [show X.env.scope.names.lookup y = _ from k'] at k <;> cases k
    · rw [h2] at e'
      cases e'
      exact z.keeps kp
  · obtain ⟨w, z⟩ := I.cell y c (cm e).1
    exact ⟨w, z.keeps kp⟩
end
/-! ### one segment of the generator -/
/-- all goes well as long as W says so; vs: the expression's own slots, forgotten ahead of each turn -/
structure Way (J : It) (g : TG) (te : TE) (stop : Bool) (vs : List Nat) (σ : L2.St) (Q : VK) (W : Nat → Nat → Hp → Prop) : Prop where
  turn : ∀ i m H, W i m H → (J.stop i H ∧ Q (.bl (!stop)) H) ∨ (J.go i H ∧ ∀ x H2, J.yld i H x H2 → g x (wipe σ vs) H2 fun σ2 H3 => wipe σ2 vs = wipe σ vs ∧ te σ2 H3 fun v H4 => ∃ b, v = .bl b ∧ if b = stop then Q (.bl stop) H4 else ∃ m', m' < m ∧ W (i + 1) m' H4)
theorem inv_wipe {X : Cx} {pins : List (Addr × Obj)} {σ : L2.St} {H : Hp} {s : Shared} (vs : List Nat) (I : Inv X pins σ H s) : Inv X pins (wipe σ vs) H s := I.weak (wipe_length σ vs) fun _ _ e => (wipe_some e).1
/-- a state that looks the same to the generator -/
def Like (s s' : Shared) : Prop := s'.os = s.os ∧ s'.heap = s.heap ∧ AllBare s'.gens
def GEnd (Y : Cx) (ps : List (Addr × Obj)) (stop : Bool) (Q : VK) (s : Shared) : Prop := ∃ σ H, Inv Y ps σ H s ∧ Q (.bl (!stop)) H
def GPro (Y : Cx) (ps : List (Addr × Obj)) (stop : Bool) (Q : VK) : Protocol := fun _ _ v s kap =>
  ∃ b σ H, v = Value.bool b ∧ Inv Y ps σ H s ∧ if b = stop then Q (.bl stop) H else ∀ s', Like s s' → kap (.send .none) s'
theorem over_gen {A : Around} {elt tg iter : Expr} {ifs : List Expr} {sc : Scope} {pos : Pos} {it acc : Value} {ce : Env} : A.over (.compLoop (.GeneratorExp elt [⟨tg, iter, ifs, 0⟩] sc pos) 0 it acc ce) [] = A.deeper ce := by
  first
    | rfl
    | (obtain ⟨hd, d, fr, gs, u⟩ := A; simp [Around.over, Around.deeper, marksOver, frameCount, unitsOf, envsOf, guardsOf, pushEnvs, pushGuards, Code.envs, Code.env?, Code.isFrame, Code.guards, Code.isGuard, Code.weight, Code.frames, Code.isCreation, Code.isCaller, Code.cUnits])
theorem over_gen0 {A : Around} {elt tg iter : Expr} {ifs : List Expr} {sc : Scope} {pos : Pos} {it acc : Value} {ce : Env} : A.over (.compStart (.GeneratorExp elt [⟨tg, iter, ifs, 0⟩] sc pos) 0 it acc ce) [] = A.deeper ce := by
  first
    | rfl
    | (obtain ⟨hd, d, fr, gs, u⟩ := A; simp [Around.over, Around.deeper, marksOver, frameCount, unitsOf, envsOf, guardsOf, pushEnvs, pushGuards, Code.envs, Code.env?, Code.isFrame, Code.guards, Code.isGuard, Code.weight, Code.frames, Code.isCreation, Code.isCaller, Code.cUnits])
section
variable {Y : Cx} {A : Around} {ps : List (Addr × Obj)} {elt tg iter : Expr} {sc : Scope} {pos : Pos} {it : Addr} {fp : List Addr} {tn : Nat → Heap → Prop} {J : It} {g : TG} {te : TE} {stop : Bool} {Q : VK} {W : Nat → Nat → Hp → Prop} {vs : List Nat} {σ₀ : L2.St}
abbrev Rg (Y : Cx) (ps : List (Addr × Obj)) (stop : Bool) (Q : VK) : GenEnd := fun n s₀ r s₁ => r = .ok .next ∧ (fun (_ : Nat) (_ s : Shared) => GEnd Y ps stop Q s) n s₀ s₁
theorem seg_turns (hA : A.deeper Y.env = Y.A) (hx : ∀ e s, ¬ Y.xe e s) (hc : Y.calm = true) (hco : Y.env.scope.isCoroutine = false) (T : Turn Y.prog Y.w Y.K tg J fp it tn) (hg : PG Y tg g) (he : PE Y elt te) (hW : Way J g te stop vs σ₀ Q W)
    (fo : ∀ (H : Hp), (∀ b ∈ fp, H b = none) → ∀ b ∈ fp, FpOk Y ps H b) :
    ∀ (m n i : Nat) (H : Hp) (s₀ s : Shared), m < n → W i m H → Inv Y ps (wipe σ₀ vs) H s → tn i s.heap → (∀ b ∈ fp, H b = none) →
      Seg (model Y.prog Y.w) A (Rg Y ps stop Q) (GPro Y ps stop Q) n s₀ (.compLoop (.GeneratorExp elt [⟨tg, iter, [], 0⟩] sc pos) 0 (.ref it) .none Y.env)
        ((model Y.prog Y.w).den (.compLoop (.GeneratorExp elt [⟨tg, iter, [], 0⟩] sc pos) 0 (.ref it) .none Y.env)) [] s := by
  intro m
  induction m using Nat.strongRecOn with
  | ind m ih =>
    intro n i H s₀ s hmn hw I st fr
    generalize hσ : wipe σ₀ vs = σ at I
    have oA : A.over (.compLoop (.GeneratorExp elt [⟨tg, iter, [], 0⟩] sc pos) 0 (.ref it) .none Y.env) [] = Y.A := over_gen.trans hA
    show Seg _ A _ _ _ s₀ _ ((compTurn (.GeneratorExp elt [⟨tg, iter, [], 0⟩] sc pos) 0 (.ref it) .none Y.env).onRaise (leaving Y.env)) [] s
    rw [compTurn_gen, Sem.onRaise_eq_wrap]
    refine seg_bind_wrap (wpAny_standAt ?_)
    rcases hW.turn i m H hw with ⟨hs, q⟩ | ⟨hgo, step⟩
    · refine seg_bind_wrap ?_
      rw [oA]
      refine thn (T.done Y rfl rfl rfl hc i ps s σ H _ I (fo H fr) st hs) fun r s1 ⟨er, I1⟩ => ?_
      subst er
      exact seg_end (.ok .next) ⟨rfl, σ, H, I1, q⟩
    · refine seg_bind_wrap ?_
      rw [oA]
      refine thn (T.item Y rfl rfl rfl hc i ps s σ H _ I (fo H fr) st hgo) fun r s1 ⟨u, er, h1⟩ => ?_
      subst er
      refine seg_bind_wrap ?_
      rw [oA]
      refine thn h1 fun _ s2 ⟨x, H2, I2, rx, hy, st2, fr2⟩ => ?_
      have I2' := I2.pinned (fo H2 fr2) (T.obj _ _ st2)
      refine seg_bind_wrap ?_
      rw [oA]
      refine wpAny_mono (hg.run _ s2 σ H2 x u _ I2' rx (by have q := step x H2 hy; rw [hσ] at q; exact q)) (fun _ s3 h3 => ?_) fun e s' z => absurd z (hx e s')
      obtain ⟨σ3, H3, I3, hw3, q3⟩ := h3
      refine seg_bind_wrap ?_
      rw [oA]
      refine wpAny_tests_nil ?_
      obtain ⟨n, rfl⟩ : ∃ k, n = k + 1 := ⟨n - 1, by omega⟩
      simp only [if_true]
      have hy : ∀ v, yieldOut Y.env v = yieldValue v := fun v => by simp only [yieldOut, hco, Bool.false_eq_true, if_false]
      simp only [hy]
      rw [Sem.bind_eq_wrap', Sem.bind_eq_wrap', Sem.wrap_wrap, Sem.wrap_wrap]
      refine seg_wrap ?_
      rw [oA]
      refine wpAny_mono (he.run _ s3 σ3 H3 _ I3 q3) (fun y s4 h4 => ?_) fun e s' z => absurd z (hx e s')
      obtain ⟨v, H4, I4, ry, b, ev, q4⟩ := h4
      subst ev
      cases (show y = Value.bool b from ry)
      have st4 : tn (i + 1) s4.heap := T.keep _ _ _ st2 fun c hc o e => (I4.pin (c, o) (List.mem_append_right _ (List.mem_append_right _ (mem_pinsAt hc e)))).1
      have fr4 : ∀ c ∈ fp, H4 c = none := fun c hc => by
        obtain ⟨o, e, _⟩ := T.obj _ _ st2 c hc
        exact (I4.pin (c, o) (List.mem_append_right _ (List.mem_append_right _ (mem_pinsAt hc e)))).2.1
      refine seg_at (seg_yield rfl rfl rfl ⟨b, σ3, H4, rfl, I4.unpinned, ?_⟩)
      by_cases hb : b = stop
      · rw [if_pos hb] at q4 ⊢
        exact q4
      · rw [if_neg hb] at q4 ⊢
        obtain ⟨m', hm, w4⟩ := q4
        intro s5 lk
        refine seg_again rfl (ih m' hm n (i + 1) H4 s5 s5 (by omega) w4 (inv_gens (by rw [hσ, ← hw3]; exact inv_wipe vs I4.unpinned) lk.1 lk.2.1 lk.2.2) ?_ fr4)
        rw [lk.2.1]
        exact st4
theorem seg_first (hA : A.deeper Y.env = Y.A) (hx : ∀ e s, ¬ Y.xe e s) (hc : Y.calm = true) (hco : Y.env.scope.isCoroutine = false) (T : Turn Y.prog Y.w Y.K tg J fp it tn) (hg : PG Y tg g) (he : PE Y elt te) (hW : Way J g te stop vs σ₀ Q W)
    (fo : ∀ (H : Hp), (∀ b ∈ fp, H b = none) → ∀ b ∈ fp, FpOk Y ps H b) {m n : Nat} {H : Hp} {s₀ s : Shared} (hmn : m < n) (hw : W 0 m H) (I : Inv Y ps (wipe σ₀ vs) H s) (st : tn 0 s.heap) (fr : ∀ b ∈ fp, H b = none) :
    Seg (model Y.prog Y.w) A (Rg Y ps stop Q) (GPro Y ps stop Q) n s₀ (.compStart (.GeneratorExp elt [⟨tg, iter, [], 0⟩] sc pos) 0 (.ref it) .none Y.env)
        ((model Y.prog Y.w).den (.compStart (.GeneratorExp elt [⟨tg, iter, [], 0⟩] sc pos) 0 (.ref it) .none Y.env)) [] s := by
  have loop := seg_turns (iter := iter) (sc := sc) (pos := pos) hA hx hc hco T hg he hW fo m n 0 H s₀ s hmn hw I st fr
  show Seg _ A _ _ _ s₀ _ ((compStart (.GeneratorExp elt [⟨tg, iter, [], 0⟩] sc pos) 0 (.ref it) .none Y.env).onRaise (leaving Y.env)) [] s
  unfold compStart
  rw [Sem.onRaise_eq_wrap]
  show Seg _ A _ _ _ s₀ _ ((ask >>= _).wrap _ _ _ _) [] s
  refine seg_bind_wrap (wpAny_askSetting ?_)
  split
  · exact seg_again rfl loop
  · first
      | exact seg_bind_wrap (wpAny_rule (seg_bind_wrap (wpAny_standAt (seg_bind_wrap (T.self _ 0 s _ _ st (seg_again rfl loop))))))
      | (refine seg_bind_wrap (wpAny_rule ?_); show Seg _ A _ _ _ s₀ _ ((standAt iter.pos >>= _).wrap _ _ _ _) [] s; exact seg_bind_wrap (wpAny_standAt (seg_bind_wrap (T.self _ 0 s _ _ st (seg_again rfl loop)))))
end
/-! ### what consumes it -/
/-- the generator sleeps, n wakings at most are left -/
def Ready (Y : Cx) (A : Around) (ps : List (Addr × Obj)) (g : Nat) (stop : Bool) (Q : VK) (n : Nat) (s : Shared) : Prop :=
  (∃ (σ : L2.St) (H : Hp), Inv Y ps σ H s) ∧ ∃ gs, s.gens[g]? = some gs ∧ ∀ s', Like s s' → gs.Goes (model Y.prog Y.w) A (Rg Y ps stop Q) (GPro Y ps stop Q) n (.send .none) s'
/-- what a waking hands out -/
def Woke (Y : Cx) (A : Around) (ps : List (Addr × Obj)) (g : Nat) (stop : Bool) (Q : VK) (n : Nat) (r : Option Value) (s : Shared) : Prop :=
  match r with
  | none => GEnd Y ps stop Q s
  | some v => ∃ b, v = Value.bool b ∧ if b = stop then ∃ σ H, Inv Y ps σ H s ∧ Q (.bl stop) H else ∃ k, k < n ∧ Ready Y A ps g stop Q k s
theorem bare_set {gens : Array GenState} {g : Nat} {x : GenState} (h : AllBare gens) (hx : x.bare = true) : AllBare (gens.setIfInBounds g x) := fun y hy => by
  rcases Array.mem_or_eq_of_mem_setIfInBounds hy with z | z
  · exact h y z
  · rw [z]
    exact hx
theorem set_there {s : Shared} {g : Nat} {x : GenState} (h : g + 1 ≤ (s.setGen g x).gens.size) : (s.setGen g x).gens[g]? = some x := by
  rw [setGen_size] at h
  have : g < s.gens.size := h
  simp [Shared.setGen, this]
section
variable {Y : Cx} {A : Around} {ps : List (Addr × Obj)} {a : Addr} {ao : Obj} {g : Nat} {stop : Bool} {Q : VK}
theorem woken {n : Nat} {s : Shared} {E : Value → Shared → Prop} (hh : A.handled = none) (hroom : A.depth < recursionLimit) (ha : (a, ao) ∈ ps) (hao : ∃ nm qn, ao.cls = .type "generator" ∧ ao.data = .fields #[.int g 0, nm, qn] ∧ ao.slots = #[])
    (h : Ready Y A.in1 ps g stop Q n s) : wpAny (model Y.prog Y.w) A (pyNext (.ref a)) (Woke Y A.in1 ps g stop Q n) E s := by
  obtain ⟨⟨σ, H, I⟩, gs, hgs, go⟩ := h
  obtain ⟨nm, qn, c1, c2, c3⟩ := hao
  have ge : s.heap.IsGen a g := ⟨ao, nm, qn, (I.pin (a, ao) (List.mem_append_right _ ha)).1, c1, c2, c3⟩
  have glt : g + 1 ≤ s.gens.size := by
    obtain ⟨z, _⟩ := Array.getElem?_eq_some_iff.mp hgs
    exact z
  have b0 : AllBare (s.setGen g .running).gens := bare_set I.bare rfl
  refine wpAny_gsz glt (wpAny_mono (wpAny_pyNext_genexpQ (P := fun _ _ s => GEnd Y ps stop Q s) hh I.nolimit hroom ge hgs (go _ ⟨rfl, rfl, b0⟩) (fun v s1 gs' hb hv => ?_) (fun s1 hp h' hk => ?_)) (fun r s' z => z) fun e s' (z : False) => False.elim z)
  · intro hsz
    obtain ⟨b, σ1, H1, rfl, I1, q⟩ := hv
    have b1 : AllBare (s1.setGen g gs').gens := bare_set I1.bare hb
    have I2 : Inv Y ps σ1 H1 (s1.setGen g gs') := inv_gens I1 rfl rfl b1
    refine ⟨b, rfl, ?_⟩
    by_cases e : b = stop
    · rw [if_pos e] at q ⊢
      exact ⟨σ1, H1, I2, q⟩
    · rw [if_neg e] at q ⊢
      cases n with
      | zero => exact (q s1 ⟨rfl, rfl, I1.bare⟩).elim
      | succ k => exact ⟨k, Nat.lt_succ_self k, ⟨σ1, H1, I2⟩, gs', set_there hsz, fun s' lk => q s' ⟨lk.1, lk.2.1, lk.2.2⟩⟩
  · intro _
    obtain ⟨σ1, H1, I1, q⟩ := hp
    have I2 : Inv Y ps σ1 H1 { s1 with heap := h', toks := s1.toks } := I1.kept hk
    exact ⟨σ1, H1, inv_gens I2 rfl rfl (bare_set I1.bare rfl), q⟩
/-- how the builtin ends -/
def Told (Y : Cx) (ps : List (Addr × Obj)) (Q : VK) (r : Result) (s : Shared) : Prop := ∃ b σ H, r = .ok (.ret (.bool b)) ∧ Inv Y ps σ H s ∧ Q (.bl b) H
theorem loop_all (hh : A.handled = none) (hroom : A.depth < recursionLimit) (ha : (a, ao) ∈ ps) (hao : ∃ nm qn, ao.cls = .type "generator" ∧ ao.data = .fields #[.int g 0, nm, qn] ∧ ao.slots = #[]) :
    ∀ (n : Nat) (s : Shared), Ready Y A.in1.in1 ps g false Q n s → codeAny (model Y.prog Y.w) A (.builtin "all.loop" ⟨[.ref a], []⟩) (Told Y ps Q) s := by
  intro n
  induction n using Nat.strongRecOn with
  | ind n ih =>
    intro s h
    refine codeAny_builtin F.entry_all_loop ?_
    rw [Around.under_plainId F.plain_all_loop _]
    show wpAny _ A.in1 (pyNext (.ref a) >>= _) _ _ s
    refine wpAny_bind (wpAny_mono (woken (A := A.in1) hh hroom ha hao h) (fun r s' w => ?_) fun _ _ z => z)
    cases r with
    | none =>
      obtain ⟨σ, H, I, q⟩ := w
      exact wpAny_bind (wpAny_rule (wpAny_pure ⟨true, σ, H, rfl, I, q⟩))
    | some v =>
      obtain ⟨b, rfl, w⟩ := w
      refine wpAny_bind (wpAny_holding (wpAny_truthy_bool ?_))
      refine wpAny_bind (wpAny_letGo ?_)
      cases b with
      | true =>
        rw [if_neg (by decide)] at w
        obtain ⟨k, hk, w⟩ := w
        simp only [if_true]
        exact wpAny_pure ⟨plainId_quiet F.plain_all_loop _, ih k hk s' w⟩
      | false =>
        rw [if_pos rfl] at w
        obtain ⟨σ, H, I, q⟩ := w
        simp only [Bool.false_eq_true, if_false]
        exact wpAny_bind (wpAny_rule (wpAny_pure ⟨false, σ, H, rfl, I, q⟩))
theorem loop_any (hh : A.handled = none) (hroom : A.depth < recursionLimit) (ha : (a, ao) ∈ ps) (hao : ∃ nm qn, ao.cls = .type "generator" ∧ ao.data = .fields #[.int g 0, nm, qn] ∧ ao.slots = #[]) :
    ∀ (n : Nat) (s : Shared), Ready Y A.in1.in1 ps g true Q n s → codeAny (model Y.prog Y.w) A (.builtin "any.loop" ⟨[.ref a], []⟩) (Told Y ps Q) s := by
  intro n
  induction n using Nat.strongRecOn with
  | ind n ih =>
    intro s h
    refine codeAny_builtin F.entry_any_loop ?_
    rw [Around.under_plainId F.plain_any_loop _]
    show wpAny _ A.in1 (pyNext (.ref a) >>= _) _ _ s
    refine wpAny_bind (wpAny_mono (woken (A := A.in1) hh hroom ha hao h) (fun r s' w => ?_) fun _ _ z => z)
    cases r with
    | none =>
      obtain ⟨σ, H, I, q⟩ := w
      exact wpAny_bind (wpAny_rule (wpAny_pure ⟨false, σ, H, rfl, I, q⟩))
    | some v =>
      obtain ⟨b, rfl, w⟩ := w
      refine wpAny_bind (wpAny_holding (wpAny_truthy_bool ?_))
      refine wpAny_bind (wpAny_letGo ?_)
      cases b with
      | false =>
        rw [if_neg (by decide)] at w
        obtain ⟨k, hk, w⟩ := w
        simp only [Bool.false_eq_true, if_false]
        exact wpAny_pure ⟨plainId_quiet F.plain_any_loop _, ih k hk s' w⟩
      | true =>
        rw [if_pos rfl] at w
        obtain ⟨σ, H, I, q⟩ := w
        simp only [if_true]
        exact wpAny_bind (wpAny_rule (wpAny_pure ⟨true, σ, H, rfl, I, q⟩))
end
/-! ### its making -/
/-- .. over iter, P the def's own table of code -/
def tGn (P : Addr) (own : List Nat) (stop : Bool) (wi : TI) (g : TG) (te : TE) : TE := fun σ H Q => wi σ H fun J H1 => TabG H1 P ∧ ∃ W : Nat → Nat → Hp → Prop, (∀ H2, Tabbed P H1 H2 → ∃ m, W 0 m H2) ∧ Way J g te stop own σ Q W
/-- it is made, nothing has been woken -/
def Fresh (X : Cx) (pins : List (Addr × Obj)) (σ : L2.St) (stop : Bool) (Q : VK) (a : Addr) (s : Shared) : Prop :=
  ∃ (Y : Cx) (ao : Obj) (g n : Nat), Y.prog = X.prog ∧ Y.w = X.w ∧ (∃ nm qn, ao.cls = .type "generator" ∧ ao.data = .fields #[.int g 0, nm, qn] ∧ ao.slots = #[]) ∧ Ready Y X.A.in1.in1 [(a, ao)] g stop Q n s ∧
    ∀ σ' H' s', Inv Y [(a, ao)] σ' H' s' → Inv X pins σ H' s'
section
variable {X : Cx} {pins : List (Addr × Obj)} {σ : L2.St} {H : Hp} {s : Shared} {c P : Addr} {elt tg iter : Expr} {sc : Scope} {own : List (Str × Nat)} {wi : TI} {g : TG} {te : TE} {k : Nat} {stop : Bool} {gpos : Pos}
theorem gen_made {Q : VK} {Q' : Value → Shared → Prop} (hr : Room (k + 1) X.A) (hN : X.N.Nodup) (TB : TabB X.base X.mg c P) (hcode : X.env.code = .ref c) (ok : NmOk X.N X.env.scope sc own) (hi : PI X tg iter wi) (hs : ∀ v, genFold iter X.env v = pure v)
    (hg : ∀ (s : Shared) (H : Hp) (A : Around) (C : Addr) (cd : Value) (fp : List Addr), PG (inGen X s H A (genEnv sc (cloFrom X.env.cells sc.names []) C cd builtinsNs X.env) fp) tg g)
    (he : ∀ (s : Shared) (H : Hp) (A : Around) (C : Addr) (cd : Value) (fp : List Addr), Room k (A.deeper (genEnv sc (cloFrom X.env.cells sc.names []) C cd builtinsNs X.env)) → A.guards = X.A.guards → PE (inGen X s H A (genEnv sc (cloFrom X.env.cells sc.names []) C cd builtinsNs X.env) fp) elt te)
    (I : Inv X pins σ H s) (h : tGn P (own.map (·.2)) stop wi g te σ H Q) (hQ : ∀ a s', Fresh X pins σ stop Q a s' → Q' (.ref a) s') :
    wpAny (model X.prog X.w) X.A (eval (.GeneratorExp elt [⟨tg, iter, [], 0⟩] sc gpos) X.env) Q' X.xe s := by
  have hfree : ∀ y ∈ sc.names, y.2 = .free → ∃ c, X.env.cells.lookup y.1 = some c := fun y hy e => I.ok.has _ (ok.blk.free y hy e)
  refine wpAny_GeneratorExp_make ok.co (closure_ok hfree) ok.cell ok.dot ok.blk.kind (by have := hr.dp; omega) ?_ hs
  refine thn (hi.run pins s σ H _ I h) fun xv s1 hx => thn hx fun itv s2 h2 => ?_
  obtain ⟨it, fp, tn, J, H2, rfl, I2, T, st2, f2, ⟨qs, hP, ht⟩, W, w0, way⟩ := h2
  have oP : s2.heap.get? P = some { cls := .none, data := .fields qs } := I2.hok P _ hP
  have nP : ∀ b ∈ fp, b ≠ P := fun b hb z => by
    have := (f2 b hb).1
    rw [z, hP] at this
    cases this
  refine ⟨I2.nolimit, LE.code_step (ps := qs) hcode (TB.code.keeps I2.bk) oP ht fun code h3 tk more ex ge hP3 ht3 => ?_⟩
  have I4 : Inv X pins σ (upd H2 P (.tbl (qs ++ more))) { s2 with heap := h3, toks := tk } := GxR.inv_tab (g' := s2.gens) (d' := s2.drawn) (t' := tk) I2 hP (fun b o n e => ex b o n e) hP3 I2.bare
  have tab : Tabbed P H2 (upd H2 P (.tbl (qs ++ more))) := ⟨⟨_, upd_same, ht3⟩, fun b n => upd_ne n⟩
  have st4 : tn 0 h3 := T.keep _ _ _ st2 fun b hb o e => ex b o (nP b hb) e
  have f4 : ∀ b ∈ fp, FpOk X pins (upd H2 P (.tbl (qs ++ more))) b := fun b hb => ⟨by rw [upd_ne (nP b hb)]; exact (f2 b hb).1, (f2 b hb).2⟩
  have lt4 : ∀ b ∈ fp, b < h3.objs.size := fun b hb => by
    obtain ⟨o, e, _⟩ := T.obj _ _ st4 b hb
    exact Heap.lt_size e
  obtain ⟨m0, w0⟩ := w0 _ tab
  generalize hH4 : upd H2 P (.tbl (qs ++ more)) = H4 at I4 tab f4 w0
  generalize hs4 : ({ s2 with heap := h3, toks := tk } : Shared) = s4 at I4
  have e4 : s4.heap = h3 := by rw [← hs4]
  rw [← e4] at st4 lt4
  obtain ⟨bm, ob, e1, e2, e3, e4', e5, e6, e7, e8⟩ := TB.bm
  refine wpAny_builtinsFor (m := X.mg) (by rw [I4.ok.glob]; exact I4.mod.glob.keeps I4.bk) e1 e2 (I4.bk _ _ e5) e6 e7 e8 ?_
  intro h' hn' hs'
  have hsz : h'.objs.size = s4.heap.objs.size + 1 := by rw [hs'.1, Heap.size_push]
  have keep' : ∀ b o, s4.heap.get? b = some o → h'.get? b = some o := fun b o e => hs'.extBut b o (Nat.ne_of_lt (Heap.lt_size e)) (Heap.get?_push_of_some _ e)
  generalize hce : genEnv sc (cloFrom X.env.cells sc.names []) s4.heap.objs.size code builtinsNs X.env = ce
  generalize hs5 : ({ s4 with gens := s4.gens.push (.fresh (.compStart (.GeneratorExp elt [⟨tg, iter, [], 0⟩] sc gpos) 0 (.ref it) .none ce)), toks := s4.toks + 1 + 1 + 1, heap := h'.push { cls := .type "generator", data := .fields #[.int s4.gens.size 0, .str "<genexpr>" (s4.toks + 1), .str (X.env.qual ++ "<genexpr>") (s4.toks + 1 + 1)] } } : Shared) = s5
  have h5 : s5.heap = h'.push { cls := .type "generator", data := .fields #[.int s4.gens.size 0, .str "<genexpr>" (s4.toks + 1), .str (X.env.qual ++ "<genexpr>") (s4.toks + 1 + 1)] } := by rw [← hs5]
  have g5 : s5.gens = s4.gens.push (.fresh (.compStart (.GeneratorExp elt [⟨tg, iter, [], 0⟩] sc gpos) 0 (.ref it) .none ce)) := by rw [← hs5]
  have o5 : s5.os = s4.os := by rw [← hs5]
  have kp : ∀ b o, s4.heap.get? b = some o → s5.heap.get? b = some o := fun b o e => by
    rw [h5]
    exact Heap.get?_push_of_some _ (keep' b o e)
  have hA : X.A.in1.in1.handled = none := hr.hd
  have J5 := gen_start (A := X.A.in1.in1) (code := code) (s5 := s5) (m := fun y => if y = (".0" : Str) then some (.ref it) else none) I4 ok hN (fun b hb => ⟨f4 b hb, lt4 b hb⟩) (show X.A.in1.in1.frames = _ from I4.ok.frames) hA o5
    (by rw [g5]; exact I4.bare.push rfl) kp (by rw [h5]; exact hn'.push _)
  have pg := hg s4 H4 X.A.in1.in1 s4.heap.objs.size code fp
  have pe := he s4 H4 X.A.in1.in1 s4.heap.objs.size code fp ⟨hr.hd, by have := hr.dp; show X.A.depth + 1 + 3 * k + 5 < _; omega, by have := hr.un; show X.A.units + 1 + 1 + 3 + 16 * k + 200 < _; omega⟩ rfl
  rw [hce] at J5 pg pe
  have hcl : ce.locals = s4.heap.objs.size := by rw [← hce]; rfl
  have hcs : ce.scope = sc := by rw [← hce]; rfl
  have hcc : ce.cells = cloFrom X.env.cells sc.names [] := by rw [← hce]; rfl
  have ae : h'.objs.size = s4.heap.objs.size + 1 := hsz
  have fsS : ∀ b ∈ frs X.stack, b < s4.heap.objs.size := fun b hb => by
    rcases List.mem_cons.mp (I4.stkSub b hb) with z | z
    · rw [z]
      exact I4.lt
    · rcases Nat.lt_or_ge b s4.heap.objs.size with y | y
      · exact y
      · exact absurd z (I4.nofs y)
  refine hQ _ _ ⟨inGen X s4 H4 X.A.in1.in1 ce fp, { cls := .type "generator", data := .fields #[.int s4.gens.size 0, .str "<genexpr>" (s4.toks + 1), .str (X.env.qual ++ "<genexpr>") (s4.toks + 1 + 1)] }, s4.gens.size, m0 + 1, rfl, rfl, ⟨_, _, rfl, rfl, rfl⟩, ?_, fun σ' H' s' J' => ?_⟩
  · have J6 : Inv (inGen X s4 H4 X.A.in1.in1 ce fp) [(h'.objs.size, { cls := .type "generator", data := .fields #[.int s4.gens.size 0, .str "<genexpr>" (s4.toks + 1), .str (X.env.qual ++ "<genexpr>") (s4.toks + 1 + 1)] })] (wipe σ (own.map (·.2))) H4 s5 := by
      refine J5.pins_of fun p hp => ?_
      rw [List.mem_singleton.mp hp]
      refine ⟨by rw [h5]; exact Heap.get?_push_size _ rfl, I4.hok.fresh (by rw [ae]; exact Nat.le_succ _), by show h'.objs.size ≠ ce.locals; rw [hcl, ae]; exact Nat.succ_ne_self _, fun z => ?_, fun v z => nomatch z⟩
      have lz : h'.objs.size < s4.heap.objs.size := fsS _ z
      rw [ae] at lz
      exact absurd lz (Nat.not_lt.mpr (Nat.le_succ _))
    refine ⟨⟨_, _, J6⟩, .fresh (.compStart (.GeneratorExp elt [⟨tg, iter, [], 0⟩] sc gpos) 0 (.ref it) .none ce), (by rw [g5]; exact Array.getElem?_push_size ..), fun s6 lk => ⟨rfl, ?_⟩⟩
    refine seg_first (Y := inGen X s4 H4 X.A.in1.in1 ce fp) (A := X.A.in1.in1) (T := T) (W := W) (J := J) rfl (fun _ _ z => z) rfl (by show ce.scope.isCoroutine = false; rw [hcs]; exact ok.co) pg pe way (fun Hx hn b hb => ?_) (Nat.lt_succ_self m0) w0 (inv_gens J6 lk.1 lk.2.1 lk.2.2) (by rw [lk.2.1]; exact T.keep _ _ _ st4 fun b _ o e => kp b o e) fun b hb => (f4 b hb).1
    have lb := lt4 b hb
    refine ⟨hn b hb, by show b ≠ ce.locals; rw [hcl]; exact Nat.ne_of_lt lb, fun z => ?_, .inl hb, fun y cc e z => ?_, fun p hp z => ?_⟩
    · rcases List.mem_cons.mp (I4.stkSub b z) with y | y
      · exact (f4 b hb).2.1 y
      · exact (f4 b hb).2.2.1 y
    · have e : ce.cells.lookup y = some cc := e
      rw [hcc] at e
      rcases cloFrom_mem (PySem.mem_of_lookup e) with hm | ⟨h1, h2⟩
      · cases hm
      · obtain ⟨c2, e2⟩ := hfree _ h1 rfl
        have e2' : X.env.cells.lookup y = some c2 := e2
        rw [e2'] at h2
        exact (f4 b hb).2.2.2.2.1 y c2 e2 (by rw [← z]; exact h2.symm)
    · have hp' : p ∈ [(h'.objs.size, ({ cls := .type "generator", data := .fields #[.int s4.gens.size 0, .str "<genexpr>" (s4.toks + 1), .str (X.env.qual ++ "<genexpr>") (s4.toks + 1 + 1)] } : Obj))] := hp
      rw [List.mem_singleton.mp hp'] at z
      have z' : h'.objs.size = b := z
      rw [← z', ae] at lb
      exact absurd lb (Nat.not_lt.mpr (Nat.le_succ _))
  · refine I4.call' (ch := fp) J'.os J'.base J'.hok J'.bare fun b hb => ?_
    have := f4 b hb
    exact ⟨this.2.2.2.1, this.2.1, this.2.2.2.2.1, this.2.2.2.2.2⟩
section
variable {p pos : Pos}
theorem pe_allG (hr : Room (k + 1) X.A) (hN : X.N.Nodup) (hgl : Gl X "all") (hm : X.mg "all" = none) (TB : TabB X.base X.mg c P) (hcode : X.env.code = .ref c) (ok : NmOk X.N X.env.scope sc own) (hi : PI X tg iter wi)
    (hg : ∀ (s : Shared) (H : Hp) (A : Around) (C : Addr) (cd : Value) (fp : List Addr), PG (inGen X s H A (genEnv sc (cloFrom X.env.cells sc.names []) C cd builtinsNs X.env) fp) tg g)
    (he : ∀ (s : Shared) (H : Hp) (A : Around) (C : Addr) (cd : Value) (fp : List Addr), Room k (A.deeper (genEnv sc (cloFrom X.env.cells sc.names []) C cd builtinsNs X.env)) → A.guards = X.A.guards → PE (inGen X s H A (genEnv sc (cloFrom X.env.cells sc.names []) C cd builtinsNs X.env) fp) elt te)
    (hs : ∀ v, genFold iter X.env v = pure v := by intro _; rfl) (hst : starEach [.GeneratorExp elt [⟨tg, iter, [], 0⟩] sc gpos] X.env = (false, eval (.GeneratorExp elt [⟨tg, iter, [], 0⟩] sc gpos) X.env) :: starEach [] X.env := by rfl) :
    PE X (.Call (.Name "all" p) [.GeneratorExp elt [⟨tg, iter, [], 0⟩] sc gpos] [] pos) (tGn P (own.map (·.2)) false wi g te) := by
  refine ⟨fun pins s σ H Q I h => wpAny_Call_Name_kw (ld_blt I hgl hm (by decide +kernel : bootBuiltins "all" = some (.builtin "all")) (PyProof.Rows.callWith_builtin1 ?_ hst (by rfl)))⟩
  rw [hst]
  refine Calls.spliced_cons (gen_made hr hN TB hcode ok hi hs hg he I h fun a s5 ⟨Y, ao, gn, n, rfl1, rfl2, hao, rd, back⟩ => Calls.spliced_nil ?_)
  refine call_function_tree F.kind_all F.plain_all F.entry_all (F.args_all1 _) ?_
  unfold Builtin.«all»
  refine wpAny_bind (m := oneArg "all" _) (wpAny_pure ?_)
  obtain ⟨nm, qn, c1, c2, c3⟩ := id hao
  obtain ⟨⟨σ6, H6, I6⟩, _⟩ := id rd
  rw [← rfl1, ← rfl2]
  refine wpAny_bind (wpAny_pyIter_gen (g := gn) ⟨ao, nm, qn, (I6.pin (a, ao) (List.mem_append_right _ List.mem_cons_self)).1, c1, c2, c3⟩ ?_)
  refine wpAny_pure ⟨plainId_quiet F.plain_all_loop _, codeAny_mono (loop_all (A := X.A) hr.hd (by have := hr.dp; omega) List.mem_cons_self hao n s5 rd) fun r s' z => ?_⟩
  obtain ⟨b, σ7, H7, rfl, I7, q⟩ := z
  exact ⟨.bl b, H7, back _ _ _ I7, rfl, q⟩
theorem pe_anyG (hr : Room (k + 1) X.A) (hN : X.N.Nodup) (hgl : Gl X "any") (hm : X.mg "any" = none) (TB : TabB X.base X.mg c P) (hcode : X.env.code = .ref c) (ok : NmOk X.N X.env.scope sc own) (hi : PI X tg iter wi)
    (hg : ∀ (s : Shared) (H : Hp) (A : Around) (C : Addr) (cd : Value) (fp : List Addr), PG (inGen X s H A (genEnv sc (cloFrom X.env.cells sc.names []) C cd builtinsNs X.env) fp) tg g)
    (he : ∀ (s : Shared) (H : Hp) (A : Around) (C : Addr) (cd : Value) (fp : List Addr), Room k (A.deeper (genEnv sc (cloFrom X.env.cells sc.names []) C cd builtinsNs X.env)) → A.guards = X.A.guards → PE (inGen X s H A (genEnv sc (cloFrom X.env.cells sc.names []) C cd builtinsNs X.env) fp) elt te)
    (hs : ∀ v, genFold iter X.env v = pure v := by intro _; rfl) (hst : starEach [.GeneratorExp elt [⟨tg, iter, [], 0⟩] sc gpos] X.env = (false, eval (.GeneratorExp elt [⟨tg, iter, [], 0⟩] sc gpos) X.env) :: starEach [] X.env := by rfl) :
    PE X (.Call (.Name "any" p) [.GeneratorExp elt [⟨tg, iter, [], 0⟩] sc gpos] [] pos) (tGn P (own.map (·.2)) true wi g te) := by
  refine ⟨fun pins s σ H Q I h => wpAny_Call_Name_kw (ld_blt I hgl hm boot_any (PyProof.Rows.callWith_builtin1 ?_ hst (by rfl)))⟩
  rw [hst]
  refine Calls.spliced_cons (gen_made hr hN TB hcode ok hi hs hg he I h fun a s5 ⟨Y, ao, gn, n, rfl1, rfl2, hao, rd, back⟩ => Calls.spliced_nil ?_)
  refine call_function_tree F.kind_any F.plain_any F.entry_any (F.args_any1 _) ?_
  unfold Builtin.«any»
  refine wpAny_bind (m := oneArg "any" _) (wpAny_pure ?_)
  obtain ⟨nm, qn, c1, c2, c3⟩ := id hao
  obtain ⟨⟨σ6, H6, I6⟩, _⟩ := id rd
  rw [← rfl1, ← rfl2]
  refine wpAny_bind (wpAny_pyIter_gen (g := gn) ⟨ao, nm, qn, (I6.pin (a, ao) (List.mem_append_right _ List.mem_cons_self)).1, c1, c2, c3⟩ ?_)
  refine wpAny_pure ⟨plainId_quiet F.plain_any_loop _, codeAny_mono (loop_any (A := X.A) hr.hd (by have := hr.dp; omega) List.mem_cons_self hao n s5 rd) fun r s' z => ?_⟩
  obtain ⟨b, σ7, H7, rfl, I7, q⟩ := z
  exact ⟨.bl b, H7, back _ _ _ I7, rfl, q⟩
end
end
/-- over what Walk tells of, by a word of the turn and the heap -/
theorem gn_it {J : It} {n : Nat} {G : Hp → Prop} {Yl : Nat → Hp → V → Hp → Prop} (w : Walk J n G Yl) {P : Addr} {g : TG} {te : TE} {stop : Bool} {vs : List Nat} {σ : L2.St} {H1 : Hp} {Q : VK} (Pv : Nat → Hp → Prop) (h0 : ∀ H2, Tabbed P H1 H2 → Pv 0 H2)
    (hG : ∀ i H, i ≤ n → Pv i H → G H) (hs : ∀ i x H H', i < n → Pv i H → Yl i H x H' → g x (wipe σ vs) H' fun σ2 H2 => wipe σ2 vs = wipe σ vs ∧ te σ2 H2 fun v H4 => ∃ b, v = .bl b ∧ if b = stop then Q (.bl stop) H4 else Pv (i + 1) H4)
    (hd : ∀ H, Pv n H → Q (.bl (!stop)) H) : ∃ W : Nat → Nat → Hp → Prop, (∀ H2, Tabbed P H1 H2 → ∃ m, W 0 m H2) ∧ Way J g te stop vs σ Q W := by
  refine ⟨fun i m H => m = n - i ∧ i ≤ n ∧ Pv i H, fun H2 t => ⟨n, by simp, Nat.zero_le _, h0 H2 t⟩, ⟨?_⟩⟩
  rintro i m H ⟨rfl, hi, p⟩
  have q := hG i H hi p
  by_cases hlt : i < n
  · refine .inr ⟨w.goes i H hlt q, fun x H' y => ?_⟩
    have z := hs i x H H' hlt p (w.yields i H x H' hlt q y)
    have e : (fun (b : Bool) (H4 : Hp) => if b = stop then Q (.bl stop) H4 else ∃ m', m' < n - i ∧ m' = n - (i + 1) ∧ i + 1 ≤ n ∧ Pv (i + 1) H4) = fun b H4 => if b = stop then Q (.bl stop) H4 else Pv (i + 1) H4 := by
      funext b H4
      split
      · rfl
      · refine propext ⟨fun ⟨_, _, _, _, z⟩ => z, fun z => ⟨n - (i + 1), by omega, rfl, hlt, z⟩⟩
    have e2 : (fun v H4 => ∃ b, v = V.bl b ∧ if b = stop then Q (.bl stop) H4 else ∃ m', m' < n - i ∧ m' = n - (i + 1) ∧ i + 1 ≤ n ∧ Pv (i + 1) H4) = fun v H4 => ∃ b, v = V.bl b ∧ if b = stop then Q (.bl stop) H4 else Pv (i + 1) H4 := by
      funext v H4
      exact congrArg (fun f : Bool → Hp → Prop => ∃ b, v = V.bl b ∧ f b H4) e
    rw [e2]
    exact z
  · have e : i = n := by omega
    subst e
    exact .inl ⟨w.stops H q, hd H p⟩
section
variable {A B : Prop}
theorem on_t (h : B) : if true = false then A else B := by rw [if_neg (by decide)]; exact h
theorem end_f (h : A) : if false = false then A else B := by rw [if_pos rfl]; exact h
theorem on_f (h : B) : if false = true then A else B := by rw [if_neg (by decide)]; exact h
theorem end_t (h : A) : if true = true then A else B := by rw [if_pos rfl]; exact h
end
end GN
-- GT
/-! the law's own call under known guards, with the tables of the code objects that hold generator expressions -/
namespace LG
open PySem PySem.Spec PyProof.Rows L2
open GxR (TabB)
section
variable {P : Program} {w : World} {K : PySem.W.Frag} {mg mb : Str → Option Value} {k : Nat} {fa a : Addr} {fd : FuncData} {x : Str} {sp : Sp} {s₁ : Shared} {vs : List Value} {ns : List Int} {cs : List (Addr × Addr)}
/-- the abstract heap at the start: the script (if it is no written thing), the tables, nothing else -/
structure Begin (K : PySem.W.Frag) (cs : List (Addr × Addr)) (a : Addr) (H : Hp) : Prop where
  tab : ∀ p ∈ cs, H p.2 = some (.tbl #[])
  only : ∀ b u, H b = some u → (b ∈ cs.map (·.2) ∧ u = .tbl #[]) ∨ (b = a ∧ K.lookup a = none ∧ ∃ o xs, u = .frz o (.lst xs))
theorem enterT (KX : K.In s₁.heap) (gl : s₁.heap.Ns mainGlobals mg) (bl : s₁.heap.Ns builtinsNs mb) (bb : ∀ y : Str, y ≠ "__name__" → mb y = bootBuiltins y) (nl : s₁.heap.NoLimit) (g0 : s₁.gens = #[])
    (tb : ∀ p ∈ cs, s₁.heap.get? p.2 = some { cls := .none, data := .fields #[] }) (nk : ∀ p ∈ cs, K.lookup p.2 = none) (hd : ∀ p ∈ cs, PySem.W.CodeHd s₁.heap p.1 p.2)
    (bmn : ∃ (bm : Addr) (ob : Obj), mg "__builtins__" = some (.ref bm) ∧ bm ≠ builtinsNs ∧ s₁.heap.get? bm = some ob ∧ ob.cls = .type "module" ∧ ob.dict = some builtinsNs ∧ ob.data = .plain)
    (at_ : s₁.heap.get? a = some { cls := .type "list", data := .seq vs.toArray }) (room : Room k callerA) (bind : ∀ (s : Shared) (u : Value), BindsTo s fd ⟨[u], []⟩ [(x, u)])
    (F : ∀ base : Heap, K.In base → base.Ns mainGlobals mg → (∀ p ∈ cs, TabB base mg p.1 p.2) → FnG P w K mg base CX0 k fa fd [x] sp) {H : Hp} (bg : Begin K cs a H) (ok : HOk P w H s₁.heap)
    (want : sp [.ref a] H (fun v _ => v = .bl true) fun _ _ _ => False) :
    codeAny (model P w) callerA (.call (.ref fa) ⟨[.ref a], []⟩) (fun r s' => r = .ok (.ret (.bool true)) ∧ OldK s₁.heap s'.heap ∧ s'.os = s₁.os ∧ AllBare s'.gens) s₁ := by
  have tbm : ∀ b, b ∈ cs.map (·.2) → s₁.heap.get? b = some { cls := .none, data := .fields #[] } := fun b z => by
    obtain ⟨p, hp, rfl⟩ := List.mem_map.mp z
    exact tb p hp
  -- what is no list and no table is not told of
  have free : ∀ {b : Addr} {o : Obj}, s₁.heap.get? b = some o → (∀ it n, o.data ≠ .seq it n) → o.data ≠ .fields #[] → H b = none := fun {b o} z nd nf => by
    cases q : H b with
    | none => rfl
    | some u =>
      rcases bg.only b u q with ⟨m, _⟩ | ⟨rfl, _⟩
      · rw [tbm b m] at z
        cases z
        exact absurd rfl nf
      · rw [at_] at z
        cases z
        exact absurd rfl (nd vs.toArray _)
  have dic : ∀ {b : Addr} {o : Obj} {es : Array DictEntry} {ep : Nat}, s₁.heap.get? b = some o → o.data = .dict es ep → H b = none := fun {b o es ep} z d => free z (fun it n y => by rw [d] at y; exact nomatch y) fun y => by rw [d] at y; exact nomatch y
  have nsOf : ∀ {b : Addr} {m : Str → Option Value}, s₁.heap.Ns b m → (hidT s₁.heap H).Ns b m := fun {b m} ⟨o, es, ep, z, d, r⟩ => ⟨o, es, ep, hidT_get z (dic z d), d, r⟩
  have inB : K.In (hidT s₁.heap H) := fun b o z => by
    refine hidT_get (KX b o z) ?_
    cases q : H b with
    | none => rfl
    | some u =>
      rcases bg.only b u q with ⟨m, _⟩ | ⟨rfl, nl, _⟩
      · obtain ⟨p, hp, rfl⟩ := List.mem_map.mp m
        rw [nk p hp] at z
        cases z
      · rw [nl] at z
        cases z
  have md : Mod K mg (hidT s₁.heap H) := ⟨inB, nsOf gl, ⟨mb, nsOf bl, bb⟩, let ⟨mc, y1, y2⟩ := nl; ⟨mc, nsOf y1, y2⟩⟩
  have tabs : ∀ p ∈ cs, TabB (hidT s₁.heap H) mg p.1 p.2 := fun p hp => by
    have hP := tb p hp
    refine ⟨?_, ?_, fun z => ?_⟩
    · obtain ⟨o, us, f, tf, fl, tg, i, t, tt, z, c1, c2, c3, r⟩ := hd p hp
      refine ⟨o, us, f, tf, fl, tg, i, t, tt, hidT_get z (free z (fun it n y => by rw [c2] at y; exact nomatch y) fun y => ?_), c1, c2, c3, r⟩
      rw [c2] at y
      cases y
      simp at c3
    · obtain ⟨bm, ob, b1, b2, b3, b4, b5, b6⟩ := bmn
      refine ⟨bm, ob, b1, b2, fun z => ?_, fun z => ?_, hidT_get b3 (free b3 (fun it n y => by rw [b6] at y; exact nomatch y) fun y => by rw [b6] at y; exact nomatch y), b4, b5, b6⟩
      · obtain ⟨o, es, ep, e, d, _⟩ := gl
        rw [z, e] at b3
        cases b3
        rw [d] at b6
        exact nomatch b6
      · rw [z, hP] at b3
        cases b3
        exact nomatch b6
    · obtain ⟨o, es, ep, e, d, _⟩ := gl
      rw [z, hP] at e
      cases e
      exact nomatch d
  have en : Env0 P w K mg (hidT s₁.heap H) callerA [] s₁ H := ⟨rfl, md, fun b o z => of_hidT z, Nat.le_of_eq (hidT_size _ _), trivial, fun b z => absurd (show b ∈ ([] : List Addr) from z) (List.not_mem_nil), ok, .of_eq g0⟩
  refine codeAny_mono ((F _ inB (nsOf gl) tabs).run callerA [] s₁ H ⟨[.ref a], []⟩ [.ref a] [.ref a] _ _ room rfl en (bind s₁ (.ref a)) (.cons rfl .nil) want) fun r s' h => ?_
  cases r with
  | error e => exact False.elim h
  | ok fl =>
    cases fl with
    | next => exact False.elim h
    | brk => exact False.elim h
    | cont => exact False.elim h
    | ret u =>
      obtain ⟨v, G, e1, e2, un, okG, rel, q⟩ := h
      obtain rfl : v = V.bl true := q
      obtain rfl : u = Value.bool true := rel
      -- a table may have grown, all else stands
      have grow : ∀ p ∈ cs, ∃ more : Array Value, s'.heap.get? p.2 = some { cls := .none, data := .fields more } := fun p hp => by
        obtain ⟨more, z⟩ := un.tbls p.2 #[] (bg.tab p hp)
        exact ⟨_, okG p.2 _ z⟩
      have stay : ∀ b o, b ∉ cs.map (·.2) → s₁.heap.get? b = some o → s'.heap.get? b = some o := fun b o nb z => by
        cases q : H b with
        | none => exact un.keep b o z q (fun y => nomatch y) (fun y => nomatch y)
        | some u =>
          rcases bg.only b u q with ⟨m, _⟩ | ⟨_, _, ob, xs, rfl⟩
          · exact absurd m nb
          · have z1 := (ok b _ q).1
            have z2 := (okG b _ (un.frzs b ob _ q)).1
            rw [z] at z1
            cases z1
            exact z2
      refine ⟨rfl, ⟨fun b o z => ?_, fun b o z => ?_⟩, e1, e2⟩
      · by_cases m : b ∈ cs.map (·.2)
        · obtain ⟨p, hp, rfl⟩ := List.mem_map.mp m
          obtain ⟨more, hm⟩ := grow p hp
          rw [tb p hp] at z
          cases z
          exact .inr (.inl ⟨((hd p hp).tab (tb p hp)).isCodeTable, rfl, #[], more, rfl, by rw [Array.empty_append]; exact hm⟩)
        · exact .inl (stay b o m z)
      · by_cases m : b ∈ cs.map (·.2)
        · obtain ⟨p, hp, rfl⟩ := List.mem_map.mp m
          obtain ⟨more, hm⟩ := grow p hp
          exact ⟨_, hm⟩
        · exact ⟨o, stay b o m z⟩
theorem enterT_all (KX : K.In s₁.heap) (gl : s₁.heap.Ns mainGlobals mg) (bl : s₁.heap.Ns builtinsNs mb) (bb : ∀ y : Str, y ≠ "__name__" → mb y = bootBuiltins y) (nl : s₁.heap.NoLimit) (g0 : s₁.gens = #[])
    (tb : ∀ p ∈ cs, s₁.heap.get? p.2 = some { cls := .none, data := .fields #[] }) (nk : ∀ p ∈ cs, K.lookup p.2 = none) (hd : ∀ p ∈ cs, PySem.W.CodeHd s₁.heap p.1 p.2)
    (bmn : ∃ (bm : Addr) (ob : Obj), mg "__builtins__" = some (.ref bm) ∧ bm ≠ builtinsNs ∧ s₁.heap.get? bm = some ob ∧ ob.cls = .type "module" ∧ ob.dict = some builtinsNs ∧ ob.data = .plain)
    (at_ : s₁.heap.get? a = some { cls := .type "list", data := .seq vs.toArray }) (ia : IntsAre vs ns) (small : ns.length ≤ sizeLine) (room : Room k callerA) (bind : ∀ (s : Shared) (u : Value), BindsTo s fd ⟨[u], []⟩ [(x, u)])
    (F : ∀ base : Heap, K.In base → base.Ns mainGlobals mg → (∀ p ∈ cs, TabB base mg p.1 p.2) → FnG P w K mg base CX0 k fa fd [x] sp)
    (want : ∀ H : Hp, (∀ p ∈ cs, H p.2 = some (.tbl #[])) → SqL K H a (ns.map V.int) → sp [.ref a] H (fun v _ => v = .bl true) fun _ _ _ => False) :
    codeAny (model P w) callerA (.call (.ref fa) ⟨[.ref a], []⟩) (fun r s' => r = .ok (.ret (.bool true)) ∧ OldK s₁.heap s'.heap ∧ s'.os = s₁.os ∧ AllBare s'.gens) s₁ := by
  have rel := vals_ints ia
  have len := ia.length
  have tbm : ∀ b, b ∈ cs.map (·.2) → s₁.heap.get? b = some { cls := .none, data := .fields #[] } := fun b z => by
    obtain ⟨p, hp, rfl⟩ := List.mem_map.mp z
    exact tb p hp
  have an : a ∉ cs.map (·.2) := fun z => by
    have e := tbm a z
    rw [at_] at e
    exact nomatch congrArg Obj.data (Option.some.inj e)
  have mem : ∀ p ∈ cs, p.2 ∈ cs.map (·.2) := fun p hp => List.mem_map.mpr ⟨p, hp, rfl⟩
  cases hk : K.lookup a with
  | some o =>
    have z := KX a o hk
    rw [at_] at z
    cases z
    let H : Hp := fun b => if b ∈ cs.map (·.2) then some (.tbl #[]) else none
    have e1 : ∀ b, b ∈ cs.map (·.2) → H b = some (.tbl #[]) := fun b m => if_pos m
    have e2 : ∀ b u, H b = some u → b ∈ cs.map (·.2) ∧ u = .tbl #[] := fun b u z => by
      by_cases m : b ∈ cs.map (·.2)
      · rw [e1 b m] at z
        cases z
        exact ⟨m, rfl⟩
      · rw [show H b = none from if_neg m] at z
        cases z
    refine enterT KX gl bl bb nl g0 tb nk hd bmn at_ room bind F (H := H) ⟨fun p hp => e1 _ (mem p hp), fun b u z => .inl (e2 b u z)⟩ (fun b u z => ?_)
      (want H (fun p hp => e1 _ (mem p hp)) (.inr ⟨_, vs.toArray, _, hk, rfl, rfl, rfl, by rw [List.size_toArray, len]; exact small, by simpa using rel⟩))
    obtain ⟨m, rfl⟩ := e2 b u z
    exact tbm b m
  | none =>
    let ob : Obj := { cls := .type "list", data := .seq vs.toArray }
    let H : Hp := fun b => if b = a then some (.frz ob (.lst (ns.map V.int))) else if b ∈ cs.map (·.2) then some (.tbl #[]) else none
    have hit : H a = some (.frz ob (.lst (ns.map V.int))) := if_pos rfl
    have e1 : ∀ b, b ∈ cs.map (·.2) → H b = some (.tbl #[]) := fun b m => (if_neg (fun z => an (by rw [← z]; exact m))).trans (if_pos m)
    have e2 : ∀ b u, H b = some u → (b ∈ cs.map (·.2) ∧ u = .tbl #[]) ∨ (b = a ∧ u = .frz ob (.lst (ns.map V.int))) := fun b u z => by
      by_cases i : b = a
      · rw [i, hit] at z
        cases z
        exact .inr ⟨i, rfl⟩
      · by_cases m : b ∈ cs.map (·.2)
        · rw [e1 b m] at z
          cases z
          exact .inl ⟨m, rfl⟩
        · rw [show H b = none from (if_neg i).trans (if_neg m)] at z
          cases z
    refine enterT KX gl bl bb nl g0 tb nk hd bmn at_ room bind F (H := H) ⟨fun p hp => e1 _ (mem p hp), fun b u z => (e2 b u z).imp id fun ⟨i, e⟩ => ⟨i, hk, ob, _, e⟩⟩ (fun b u z => ?_) (want H (fun p hp => e1 _ (mem p hp)) (.inl (.inr ⟨ob, hit⟩)))
    rcases e2 b u z with ⟨m, rfl⟩ | ⟨rfl, rfl⟩
    · exact tbm b m
    · exact ⟨at_, by rw [List.length_map]; exact small, vs, _, rel, at_⟩
end
/-- a def of the text whose code object's table is empty at the law's start -/
def Bare (mg : Str → Option Value) (h : Heap) (nm : Str) : Prop := ∃ (a c P : Addr) (o : Obj) (fd : FuncData), mg nm = some (.ref a) ∧ h.get? a = some o ∧ o.data = .func fd ∧ fd.code = .ref c ∧ PySem.W.CodeHd h c P ∧ h.get? P = some { cls := .none, data := .fields #[] }
/-- what k_head leaves, from the law's promise; nms: the defs that hold generator expressions -/
theorem walkGT {l : PySem.W.OpenLaw} {n k : Nat} {q : Program} {loose : List Str} {XP : (Str → Option Value) → Heap → Prop} {YP : World → Heap → Prop} {d : DefRec} {K : Params → PySem.W.Frag} {x : Str} (nms : List Str)
    (hn : l.most = some n) (hz : n ≤ sizeLine) (hdf : d.params.defaults = []) (room : Room k callerA) (hrec : (nms.all fun nm => (recsOf q).any fun e => e.name == nm) = true) (hY : ∀ (w : World) (h : Heap), YP w h → (K w.params).In h)
    (F : ∀ (w : World) (mg : Str → Option Value) (fa : Addr) (h : Heap), (K w.params).In h → h.Ns mainGlobals mg → mg d.name = some (.ref fa) → (∀ nm ∈ nms, Bare mg h nm) →
      ∃ (fd : FuncData) (cs : List (Addr × Addr)) (sp : Sp), (∀ p ∈ cs, h.get? p.2 = some { cls := .none, data := .fields #[] }) ∧ (∀ p ∈ cs, (K w.params).lookup p.2 = none) ∧ (∀ p ∈ cs, PySem.W.CodeHd h p.1 p.2) ∧ (∀ (s : Shared) (u : Value), BindsTo s fd ⟨[u], []⟩ [(x, u)]) ∧
        (∀ (H : Hp) (a : Addr) (ns : List Int), ns.length ≤ n → (∀ p ∈ cs, H p.2 = some (.tbl #[])) → SqL (K w.params) H a (ns.map V.int) → sp [.ref a] H (fun v _ => v = .bl true) fun _ _ _ => False) ∧
        ∀ base : Heap, (K w.params).In base → base.Ns mainGlobals mg → (∀ p ∈ cs, TabB base mg p.1 p.2) → FnG l.prog w (K w.params) mg base CX0 k fa fd [x] sp) :
    PySem.W.WalkO q loose XP YP l.row.toRowW d [] (fun f vs => PySem.call f vs) := by
  refine Att.attach_call hn hdf fun w s0 s1 mg mb fa o pm cd doc a vs ns G Y ho hd hcd hmg hobj ia len g0 => ?_
  obtain ⟨fd, cs, sp, t1, t2, t3, bi, wt, FF⟩ := F w mg fa _ (hY w _ Y) G.T.g hmg fun nm hnm => by
    obtain ⟨e, he, en⟩ := List.any_eq_true.mp (List.all_eq_true.mp hrec nm hnm)
    obtain ⟨b, o2, fd2, c2, P2, h1, h2, h3, h4, h5, h6⟩ := G.T.tab e he
    rw [beq_iff_eq.mp en] at h1
    exact ⟨b, c2, P2, o2, fd2, h1, h2, h3, h4, PySem.W.CodeHd.of h5 h6, h6.2⟩
  exact enterT_all (hY w _ Y) G.T.g G.T.b G.T.builtins G.T.nolimit g0 t1 t2 t3 G.T.bmain hobj ia (Nat.le_trans len hz) room bi FF fun H ht hs => wt H a ns len ht hs
end LG
-- SL
/-! sum(a list of lists, a list); set(a list of ints) -/
namespace LM
open PySem PySem.Spec PyProof.Rows L2
section
variable {prog : Program} {w : World} {A : Around} {R : Result → Shared → Prop}
abbrev lob (xs : Array Value) (n : Nat) : Obj := { cls := .type "list", dict := none, data := .seq xs n, slots := #[] }
/-- what stands while the lists are put together: h0 is the heap ahead, acc holds what is put together -/
structure Mid (h0 : Heap) (I S l : Addr) (items : Array Value) (i : Nat) (acc : Addr) (p : Array Value) (m : Nat) (h : Heap) : Prop where
  keep : ∀ b o, h0.get? b = some o → h.get? b = some o
  it : h.IsListIter I l i
  st : ∃ c, h.get? S = some (lob #[.ref acc] c)
  ac : h.get? acc = some (lob p m)
  aI : acc ≠ I
  aS : acc ≠ S
theorem loop (hh : A.handled = none) {b0 : Addr} {h0 : Heap} {I S l : Addr} {items : Array Value} {c : Nat → Addr} {ys : Nat → Array Value} {nn : Nat → Nat} {pre : Nat → Array Value} (hl : h0.IsList l items) (lI : l ≠ I) (gI : h0.objs.size ≤ I) (nI : h0.get? I = none) (nS : h0.get? S = none) (IS : I ≠ S)
    (hi : ∀ j, j < items.size → items[j]? = some (.ref (c j)) ∧ h0.get? (c j) = some (lob (ys j) (nn j))) (hp : ∀ j, j < items.size → pre (j + 1) = pre j ++ ys j) (hz : ∀ j, j ≤ items.size → (pre j).size ≤ sizeLine) :
    ∀ (k i : Nat) (s : Shared) (acc : Addr) (m : Nat), items.size - i = k → i ≤ items.size → Mid h0 I S l items i acc (pre i) m s.heap → (i = 0 ∧ acc = b0) ∨ h0.objs.size ≤ acc →
      (∀ h' tk acc' m', (∀ b o, h0.get? b = some o → h'.get? b = some o) → h'.get? acc' = some (lob (pre items.size) m') → (items.size = 0 ∧ acc' = b0) ∨ h0.objs.size ≤ acc' → R (.ok (.ret (.ref acc'))) { s with heap := h', toks := tk }) →
      codeAny (model prog w) A (.builtin "sum.loop" ⟨[.ref I, .ref S, rawInt 2, rawInt 0], []⟩) R s := by
  have ne0 : ∀ {b : Addr} {o : Obj} {x : Addr}, h0.get? b = some o → h0.get? x = none → b ≠ x := fun e n z => by
    rw [z, n] at e
    cases e
  intro k
  induction k with
  | zero =>
    intro i s acc m hk hle M fr hR
    obtain rfl : i = items.size := by omega
    obtain ⟨cc, hS⟩ := M.st
    refine codeAny_builtin F.entry_sum_loop ?_; rw [Around.under_plainId F.plain_sum_loop _]
    show wpAny _ A.in1 (seqItems? (.ref S) >>= _) _ _ s; refine wpAny_bind (wpAny_seqItems hS rfl ?_)
    show wpAny _ A.in1 (tryCatch (pyNext (.ref I)) _ >>= _) _ _ s; refine wpAny_bind (wpAny_tryCatch ((Walks.list (A := A.in1) hh I l lI items).done s _ _ ⟨M.it, hl.at fun o e => M.keep _ o e⟩ fun h' tk kk => ?_))
    exact wpAny_pure (hR h' tk acc m (fun b o e => kk b o (fun z => ne0 e nI (List.mem_singleton.mp z)) (M.keep b o e)) (kk _ _ (fun z => M.aI (List.mem_singleton.mp z)) M.ac) fr)
  | succ k ih =>
    intro i s acc m hk hle M fr hR
    have hlt : i < items.size := by omega
    obtain ⟨cc, hS⟩ := M.st
    refine codeAny_builtin F.entry_sum_loop ?_; rw [Around.under_plainId F.plain_sum_loop _]
    show wpAny _ A.in1 (seqItems? (.ref S) >>= _) _ _ s; refine wpAny_bind (wpAny_seqItems hS rfl ?_)
    show wpAny _ A.in1 (tryCatch (pyNext (.ref I)) _ >>= _) _ _ s
    refine wpAny_bind (wpAny_tryCatch ((Walks.list (A := A.in1) hh I l lI items).item i s _ _ hlt ⟨M.it, hl.at fun o e => M.keep _ o e⟩ fun v h1 tk1 hv st1 kk => ?_))
    obtain ⟨e1, e2⟩ := hi i hlt
    rw [e1] at hv
    cases hv
    have sub : ∀ {b : Addr}, b ≠ I → b ∉ [I] := fun n z => n (List.mem_singleton.mp z)
    have k1 : ∀ b o, h0.get? b = some o → h1.get? b = some o := fun b o e => kk b o (sub (ne0 e nI)) (M.keep b o e)
    have S1 := kk S _ (sub (Ne.symm IS)) hS
    have A1 := kk acc _ (sub M.aI) M.ac
    have lt : ∀ {b : Addr} {o : Obj}, h1.get? b = some o → b ≠ h1.objs.size := fun e => Nat.ne_of_lt (Heap.lt_size e)
    show wpAny _ A.in1 ((holding [Value.ref (c i)] (binaryOp .Add (.ref acc) (.ref (c i)))).attempt >>= _) _ _ _
    refine wpAny_bind (wpAny_attempt (wpAny_holding (PySem.P.add_list A1 (k1 _ _ e2) ?_ (by have := hz (i + 1) hlt; rw [hp i hlt, Array.size_append] at this; exact this))))
    -- the new list takes the elder one's place
    have S2 : (h1.push (lob (pre i ++ ys i) 0)).get? S = some (lob #[.ref acc] cc) := Heap.get?_push_of_some _ S1
    show wpAny _ A.in1 (updateSeq S (fun _ => #[Value.ref h1.objs.size]) >>= _) _ _ _; refine wpAny_bind (wpAny_updateSeq S2 rfl ?_)
    have S3 := Heap.get?_update_self (Obj.mapSeq fun _ => #[Value.ref h1.objs.size]) S2 rfl
    refine wpAny_bind (wpAny_letGo ?_); refine wpAny_bind (wpAny_updateSeq S3 rfl ?_)
    have S4 := Heap.get?_update_self (Obj.mapSeq fun _ => #[Value.ref h1.objs.size]) S3 rfl
    have k4 : ∀ b o, b ≠ S → h1.get? b = some o → (((h1.push (lob (pre i ++ ys i) 0)).update S (Obj.mapSeq fun _ => #[Value.ref h1.objs.size])).update S (Obj.mapSeq fun _ => #[Value.ref h1.objs.size])).get? b = some o := fun b o n e =>
      (Heap.get?_update_other _ _ (Ne.symm n)).trans ((Heap.get?_update_other _ _ (Ne.symm n)).trans (Heap.get?_push_of_some _ e))
    have aS : h1.objs.size ≠ S := fun z => lt S1 z.symm
    have aI : h1.objs.size ≠ I := fun z => by
      obtain ⟨o, e, _⟩ := st1.1
      exact lt e z.symm
    refine wpAny_pure ⟨plainId_quiet F.plain_sum_loop _, ih (i + 1) _ h1.objs.size 0 (by omega) hlt ⟨fun b o e => k4 b o (ne0 e nS) (k1 b o e), st1.1.at fun o e => k4 I o IS e, ⟨_, S4⟩, ?_, aI, aS⟩ (.inr ?_) fun h' tk acc' m' q1 q2 q3 => hR h' tk acc' m' q1 q2 q3⟩
    rotate_left
    · obtain ⟨o, e, _⟩ := st1.1
      exact Nat.le_of_lt (Nat.lt_of_le_of_lt gI (Heap.lt_size e))
    rw [hp i hlt]
    exact (Heap.get?_update_other _ _ (Ne.symm aS)).trans ((Heap.get?_update_other _ _ (Ne.symm aS)).trans (Heap.get?_push_size _ rfl))
theorem args2 (a b : Value) : argsOk "sum" ⟨[a, b], []⟩ := by unfold argsOk; kernel_rfl
theorem sum_lists {E : Value → Shared → Prop} {Q : Value → Shared → Prop} {s : Shared} (hh : A.handled = none) {l b : Addr} {items bs : Array Value} {nb : Nat} {c : Nat → Addr} {ys : Nat → Array Value} {nn : Nat → Nat} {pre : Nat → Array Value} (hl : s.heap.IsList l items) (hb : s.heap.get? b = some (lob bs nb))
    (hi : ∀ j, j < items.size → items[j]? = some (.ref (c j)) ∧ s.heap.get? (c j) = some (lob (ys j) (nn j))) (h0 : pre 0 = bs) (hp : ∀ j, j < items.size → pre (j + 1) = pre j ++ ys j) (hz : ∀ j, j ≤ items.size → (pre j).size ≤ sizeLine)
    (hQ : ∀ h' tk acc m, (∀ b o, s.heap.get? b = some o → h'.get? b = some o) → h'.get? acc = some (lob (pre items.size) m) → (items.size = 0 ∧ acc = b) ∨ s.heap.objs.size ≤ acc → Q (.ref acc) { s with heap := h', toks := tk }) :
    wpAny (model prog w) A (call (.builtin "sum") [.ref l, .ref b]) Q E s := by
  refine call_function_tree F.kind_sum F.plain_sum F.entry_sum (args2 _ _) ?_
  unfold Builtin.«sum»
  simp only [List.length_cons, List.length_nil]; rw [if_neg (by decide)]
  refine wpAny_bind (wpAny_of_eq (show Builtin.Builtins.bindParams "sum" ["start"] 0 ⟨[.ref b], []⟩ = pure [some (.ref b)] from rfl) ?_)
  refine wpAny_bind (wpAny_pyIter_list hl ?_)
  refine wpAny_bind (wpAny_pure ?_)
  have ob : (s.heap.push { cls := .type "list_iterator", data := .fields #[.ref l, .int 0 0] }).get? b = some (lob bs nb) := Heap.get?_push_of_some _ hb
  have ty : Shared.TypeIs { s with heap := s.heap.push { cls := .type "list_iterator", data := .fields #[.ref l, .int 0 0] } } (.ref b) "list" := ⟨_, ob, rfl⟩
  simp only [List.forIn_cons, List.forIn_nil]
  refine wpAny_bind (wpAny_bind (wpAny_bind (wpAny_isInstance (T := "list") (b := false) ty F.sub_list_str ?_))); simp only [Bool.false_eq_true, if_false]
  refine wpAny_pure (wpAny_bind (wpAny_bind (wpAny_isInstance (T := "list") (b := false) ty F.sub_list_bytes ?_))); simp only [Bool.false_eq_true, if_false]
  refine wpAny_pure (wpAny_bind (wpAny_bind (wpAny_isInstance (T := "list") (b := false) ty (by rw [isSubtype_type]; kernel_rfl) ?_))); simp only [Bool.false_eq_true, if_false]
  refine wpAny_pure (wpAny_pure ?_)
  refine wpAny_bind (wpAny_newObj_type ?_)
  have hsz : (s.heap.push { cls := .type "list_iterator", data := .fields #[.ref l, .int 0 0] }).objs.size = s.heap.objs.size + 1 := Heap.size_push ..
  have non : ∀ x, s.heap.objs.size ≤ x → s.heap.get? x = none := fun x hx => by
    cases e : s.heap.get? x with
    | none => rfl
    | some o => exact absurd (Nat.lt_of_lt_of_le (Heap.lt_size e) hx) (Nat.lt_irrefl _)
  have ll : l < s.heap.objs.size := by
    obtain ⟨o, e, _⟩ := hl
    exact Heap.lt_size e
  refine wpAny_pure ⟨plainId_quiet F.plain_sum_loop _, loop (R := _) (b0 := b) (h0 := s.heap) (I := s.heap.objs.size) (c := c) (ys := ys) (nn := nn) (pre := pre) hh hl (Nat.ne_of_lt ll) (Nat.le_refl _) (non _ (Nat.le_refl _)) (non _ (by show s.heap.objs.size ≤ _; rw [hsz]; exact Nat.le_succ _)) (by show s.heap.objs.size ≠ _; rw [hsz]; exact Nat.ne_of_lt (Nat.lt_succ_self _)) hi hp hz
    items.size 0 _ b nb (Nat.sub_zero _) (Nat.zero_le _) ⟨fun x o e => Heap.get?_push_of_some _ (Heap.get?_push_of_some _ e), ⟨_, Heap.get?_push_of_some _ (Heap.get?_push_size _ rfl), rfl, rfl⟩, ⟨0, Heap.get?_push_size _ rfl⟩, ?_, ?_, ?_⟩ (.inl ⟨rfl, rfl⟩) fun h' tk acc m q1 q2 q3 => hQ h' tk acc m q1 q2 q3⟩
  · rw [h0]
    exact Heap.get?_push_of_some _ ob
  · exact Nat.ne_of_lt (Heap.lt_size hb)
  · show b ≠ _
    rw [hsz]
    exact Nat.ne_of_lt (Nat.lt_succ_of_lt (Heap.lt_size hb))
end
section
variable {X : Cx}
/-- the lists of xs, one behind the other -/
def Lists (H : Hp) (xs : List V) (yss : List (List V)) : Prop := xs.length = yss.length ∧ ∀ (j : Nat) (zs : List V), yss[j]? = some zs → ∃ c : Addr, xs[j]? = some (V.ref c) ∧ H c = some (.lst zs)
def preA (b : Array Value) (ys : Nat → Array Value) : Nat → Array Value
  | 0 => b
  | j + 1 => preA b ys j ++ ys j
theorem vals_pre {bs : List V} {b : Array Value} {ys : Nat → Array Value} {yss : List (List V)} (hb : Vals bs b.toList) (h : ∀ j zs, yss[j]? = some zs → Vals zs (ys j).toList) : ∀ j, j ≤ yss.length → Vals (bs ++ (yss.take j).flatten) (preA b ys j).toList
  | 0, _ => by
    rw [List.take_zero, List.flatten_nil, List.append_nil]
    exact hb
  | j + 1, hj => by
    obtain ⟨zs, e⟩ : ∃ zs, yss[j]? = some zs := ⟨yss[j], List.getElem?_eq_getElem hj⟩
    rw [List.take_add_one, e]
    show Vals (bs ++ (yss.take j ++ [zs]).flatten) (preA b ys j ++ ys j).toList
    rw [List.flatten_append, ← List.append_assoc, Array.toList_append]
    refine (vals_pre hb h j (by omega)).append ?_
    rw [show [zs].flatten = zs by simp]
    exact h j zs e
theorem cr_sumL (hc : X.calm = true) : CallR X (.builtin "sum") (fun vs H Q => ∃ (a b : Addr) (xs bs : List V) (yss : List (List V)), vs = [.ref a, .ref b] ∧ SqL X.K H a xs ∧ H b = some (.lst bs) ∧ Lists H xs yss ∧ bs.length + yss.flatten.length ≤ sizeLine ∧
    (xs = [] → Q (.ref b) H) ∧ ∀ p, H p = none → Q (.ref p) (upd H p (.lst (bs ++ yss.flatten)))) := by
  intro pins s σ H vs us Q I r h
  obtain ⟨a, b, xs, bs, yss, rfl, ha, hb, ⟨ln, hL⟩, hz, q0, q1⟩ := h
  obtain ⟨u, v, rfl, e1, e2⟩ := vals2 r
  cases (show u = Value.ref a from e1)
  cases (show v = Value.ref b from e2)
  obtain ⟨its, rv, pl, _⟩ := I.list ha
  obtain ⟨_, bits, nb, rb, lb, eb⟩ := I.lstM hb
  have nlen := rv.length
  -- the items' lists as they stand
  have ex : ∀ j : Nat, ∃ p : Addr × Array Value × Nat, ∀ zs : List V, yss[j]? = some zs → xs[j]? = some (.ref p.1) ∧ Vals zs p.2.1.toList ∧ zs.length = p.2.1.size ∧ s.heap.get? p.1 = some (lob p.2.1 p.2.2) := fun j => by
    cases e : yss[j]? with
    | none => exact ⟨(0, #[], 0), fun zs z => nomatch z⟩
    | some zs =>
      obtain ⟨c, hx, hc⟩ := hL j zs e
      obtain ⟨_, zi, n, rz, lz, ez⟩ := I.lstM hc
      exact ⟨(c, zi.toArray, n), fun z2 q => by cases q; exact ⟨hx, rz, by rw [List.size_toArray]; exact lz, ez⟩⟩
  let f := fun j => Classical.choose (ex j)
  have hf : ∀ (j : Nat) (zs : List V), yss[j]? = some zs → xs[j]? = some (.ref (f j).1) ∧ Vals zs (f j).2.1.toList ∧ zs.length = (f j).2.1.size ∧ s.heap.get? (f j).1 = some (lob (f j).2.1 (f j).2.2) := fun j => Classical.choose_spec (ex j)
  have sz : its.toArray.size = yss.length := by rw [List.size_toArray, ← nlen, ln]
  have vp := vals_pre (b := bits.toArray) (ys := fun j => (f j).2.1) (yss := yss) rb fun j zs e => (hf j zs e).2.1
  have pz : ∀ j, j ≤ its.toArray.size → (preA bits.toArray (fun j => (f j).2.1) j).size ≤ sizeLine := fun j hj => by
    have l := (vp j (by omega)).length
    rw [List.length_append] at l
    have e3 : (preA bits.toArray (fun j => (f j).2.1) j).toList.length = (preA bits.toArray (fun j => (f j).2.1) j).size := Array.length_toList
    have : (yss.take j).flatten.length ≤ yss.flatten.length := by
      have e := congrArg (fun l : List (List V) => l.flatten.length) (List.take_append_drop j yss)
      simp only [List.flatten_append, List.length_append] at e
      omega
    omega
  refine sum_lists (c := fun j => (f j).1) (ys := fun j => (f j).2.1) (nn := fun j => (f j).2.2) (pre := preA bits.toArray fun j => (f j).2.1) (I.ok.hd hc) pl.isList eb (fun j hj => ?_) rfl (fun j _ => rfl) pz fun h' tk acc m keep at_ fr => ?_
  · obtain ⟨zs, e⟩ : ∃ zs, yss[j]? = some zs := ⟨yss[j]'(by omega), List.getElem?_eq_getElem (by omega)⟩
    obtain ⟨hx, _, _, hg⟩ := hf j zs e
    obtain ⟨y, ey, ry⟩ := rv.get hx
    cases (show y = Value.ref (f j).1 from ry)
    exact ⟨by simpa using ey, hg⟩
  · rcases fr with ⟨z, rfl⟩ | z
    · have : xs = [] := List.length_eq_zero_iff.mp (by rw [nlen]; simpa using z)
      exact ⟨.ref acc, H, I.kept (t' := tk) keep, rfl, q0 this⟩
    · have vals := vp yss.length (Nat.le_refl _)
      rw [List.take_length] at vals
      have at2 : h'.get? acc = some (lob (preA bits.toArray (fun j => (f j).2.1) yss.length) m) := by rw [← sz]; exact at_
      have J := I.laid (t' := tk) (o := .lst (bs ++ yss.flatten)) keep z ⟨by rw [List.length_append]; exact hz, _, m, vals, at2⟩
      exact ⟨.ref acc, _, J, rfl, q1 acc (I.hok.fresh z)⟩
/-- set(a list of whole numbers): nothing else is in it -/
theorem call_setL (hc : X.calm = true) : CallR X (.type "set") (fun vs H Q => ∃ (a : Addr) (ns : List Int), vs = [.ref a] ∧ SqL X.K H a (ns.map V.int) ∧ ns.length ≤ 40 ∧ ∀ p S n, H p = none → (∀ k, S k = true → k ∈ ns) → n ≤ ns.length → Q (.ref p) (upd H p (.set S n))) := by
  intro pins s σ H vs us Q I r h
  obtain ⟨a, ns, rfl, ha, hz, q⟩ := h
  obtain ⟨u, rfl, e1⟩ := vals1 r
  cases (show u = Value.ref a from e1)
  obtain ⟨its, rv, pl, _⟩ := I.list ha
  have il := rv.length
  rw [List.length_map] at il
  refine call_set_list (ns := ns) (I.ok.hd hc) pl.isList (by simpa using rv.ints) (by rw [List.size_toArray]; exact Nat.lt_of_le_of_lt (by omega) (by decide : 41 < scanBound)) fun h' tk hs keep => ?_
  have eN : its.toArray.size = ns.length := by rw [List.size_toArray, il]
  rw [eN] at hs
  have J := I.laid (t' := tk) (a := s.heap.objs.size) (o := .set _ _) (fun b o e => keep b o (Heap.lt_size e) e) (Nat.le_refl _) hs
  refine ⟨.ref s.heap.objs.size, _, J, rfl, q _ _ _ (I.hok.fresh (Nat.le_refl _)) (fun k hk => ?_) (firstMet_length_le _ _)⟩
  have hk : (firstMet (fun i => ns.getD i 0) ns.length).any (· == k) = true := hk
  rw [firstMet_any, List.any_map, List.any_eq_true] at hk
  obtain ⟨j, hj, e⟩ := hk
  have hj := List.mem_range.mp hj
  have e2 : ns.getD j 0 = k := by simpa using e
  rw [← e2, List.getD_eq_getElem?_getD, List.getElem?_eq_getElem hj]
  exact List.getElem_mem hj
end
end LM
-- SR
/-! set(a list of whole numbers), made so that it may be gone through in its order -/
namespace LM
open PySem PySem.Spec PyProof.Rows L2
section
variable {P : Program} {w : World} {A : Around} {E : Value → Shared → Prop}
/-- turn by turn -/
theorem fill_turns {R : Result → Shared → Prop} {it D : Addr} {fp wr : List Addr} {G : Array GenState → Array GenState → Prop} {ns : List Int} {n : Nat} {Pv : Nat → Value → Prop} {St : Nat → Shared → Prop}
    (W : WalksS P w A.in1 it fp wr G n Pv St) (hn : n = ns.length) (val : ∀ i v, Pv i v → ∃ t, v = .int (ns.getD i 0) t) (off : D ∉ fp) (room : ns.length + 1 < scanBound) :
    ∀ (left i : Nat) (u : Shared), ns.length = i + left → St i u → (∃ S m, SetR w u.heap D S m ∧ (∀ k, S k = true → k ∈ ns) ∧ m ≤ i) →
      (∀ u' S m, Moved (D :: wr) G u u' → SetR w u'.heap D S m → (∀ k, S k = true → k ∈ ns) → m ≤ ns.length → R (.ok (.ret .none)) u') →
      codeAny (model P w) A (.builtin "set.update.loop" ⟨[.ref D, .ref it], []⟩) R u := by
  subst hn
  have offw : D ∉ wr := fun z => off (W.sub _ z)
  have more : ∀ b ∈ wr, b ∈ D :: wr := fun b z => List.mem_cons_of_mem _ z
  intro left
  induction left with
  | zero =>
    intro i u el st ⟨S, m, sr, hS, hm⟩ fin
    obtain rfl : i = ns.length := by omega
    refine codeAny_builtin F.entry_set_update_loop ?_
    rw [Around.under_plainId F.plain_set_update_loop _]
    show wpAny _ A.in1 (pyNext (.ref it) >>= _) _ _ u
    refine wpAny_bind (W.done u _ _ st fun u' mv => ?_)
    show wpAny _ A.in1 (ret Value.none) _ _ u'
    exact wpAny_pure (fin u' S m (mv.mono more) (sr.at fun o e => mv.heap D o offw e) hS hm)
  | succ left ih =>
    intro i u el st ⟨S, m, sr, hS, hm⟩ fin
    refine codeAny_builtin F.entry_set_update_loop ?_
    rw [Around.under_plainId F.plain_set_update_loop _]
    show wpAny _ A.in1 (pyNext (.ref it) >>= _) _ _ u
    refine wpAny_bind (W.item i u _ _ (by omega) st fun v u1 hv st1 mv => ?_)
    obtain ⟨t, rfl⟩ := val i v hv
    have sr1 : SetR w u1.heap D S m := sr.at fun o e => mv.heap D o offw e
    show wpAny _ A.in1 (holding [Value.int (ns.getD i 0) t] (setAdd D (.int (ns.getD i 0) t)) >>= _) _ _ u1
    refine wpAny_bind (wpAny_holding ?_)
    unfold setAdd
    refine wpAny_holding (wpAny_bind ((intKind P w).pyHash (k := ns.getD i 0) (intKind_is _ _ _ _) ?_))
    refine setR_add_hashed (s := { u1 with toks := u1.toks + 1 }) sr1 (by omega) fun h2 sb sr2 => ?_
    have inn : ns.getD i 0 ∈ ns := by
      rw [List.getD_eq_getElem?_getD, List.getElem?_eq_getElem (by omega)]
      exact List.getElem_mem _
    refine wpAny_pure ⟨plainId_quiet F.plain_set_update_loop _, ih (i + 1) _ (by omega) (W.frame _ u1 _ _ st1 (Nat.le_succ _) fun b hb o e => ?_) ⟨_, _, sr2, fun k hk => ?_, ?_⟩ fun u3 S3 m3 mv3 sr3 hS3 hm3 => ?_⟩
    · rw [sb.2 b fun z : b = D => off (by rw [← z]; exact hb)]
      exact e
    · rcases Bool.or_eq_true _ _ |>.mp hk with z | z
      · exact hS k z
      · rw [of_decide_eq_true z]
        exact inn
    · split <;> omega
    · refine fin u3 S3 m3 (Moved.trans W.gtrans ((mv.mono more).then_heap (Nat.le_succ _) fun b o hb e => ?_) mv3) sr3 hS3 hm3
      rw [sb.2 b fun z : b = D => hb (by rw [z]; exact List.mem_cons_self)]
      exact e
theorem made_led (a : Value) {u : Shared} {Q1 : Value → Shared → Prop}
    (go : Q1 (.ref u.heap.objs.size) { u with heap := u.heap.push { cls := .type "set", dict := none, data := .set #[] 0 (.fresh 0 0 (!w.params.followText "set-order")) } }) :
    codeAny (model P w) A (.call (.builtin "set.__new__") ⟨[.type "set", a], []⟩) (wants Q1 E) u := by
  refine codeAny_of_tree (show wpAny _ A.in1 (do checkBuiltinCall "set.__new__" ⟨[.type "set", a], []⟩; again (.builtin "set.__new__" ⟨[.type "set", a], []⟩)) _ _ u from ?_)
  refine wpAny_bind (wpAny_of_eq (F.newCall_set_1 a) (wpAny_pure ⟨plainId_quiet F.plain_set_new _, codeAny_builtin F.entry_set_new ?_⟩))
  rw [Around.under_plainId F.plain_set_new _]
  unfold Builtin.«set.__new__» Builtin.Frozenset.newClass
  have selfsub := sub_set_self
  obtain ⟨x1, x2, x3, x4, x5⟩ := u
  dsimp only
  wp_walk
  refine wpAny_askSetting (wpAny_pure ?_)
  dsimp only
  simp only [newObj]
  exact wpAny_bind (wpAny_alloc (wpAny_pure (wpAny_pure go)))
theorem set_ints {u : Shared} {l : Addr} {its : Array Value} {ns : List Int} {Q : Value → Shared → Prop} (calm : A.handled = none) (hl : u.heap.IsList l its) (hin : IntsAre its.toList ns) (room : ns.length + 1 < scanBound)
    (go : ∀ (h2 : Heap) (tk : Nat) (S : Int → Bool) (m : Nat), SetR w h2 u.heap.objs.size S m → (∀ k, S k = true → k ∈ ns) → m ≤ ns.length → (∀ b o, b < u.heap.objs.size → u.heap.get? b = some o → h2.get? b = some o) → Q (.ref u.heap.objs.size) { u with heap := h2, toks := tk }) :
    wpAny (model P w) A (call (.type "set") [.ref l]) Q E u := by
  obtain ⟨cc, tt, mro_is⟩ := F.called_set.mro
  have made_is := F.called_set.made
  have sub_is := F.called_set.sub
  have sz : its.size = ns.length := by
    have := hin.length
    simpa using this
  refine wpAny_call (codeAny_of_tree (show wpAny _ _ (callAny (.type "set") _) _ _ _ from ?_))
  refine wpAny_pure ⟨Code.quiet_builtin _ (by decide +kernel), codeAny_builtin F.entry_type_call ?_⟩
  rw [Around.under_plain (weight_type_call_type "set" [.ref l] []) rfl]
  have c1 := F.called_set.notType
  have c2 := F.called_set.canCreate
  have c3 := F.typeCall_set_1 (.ref l)
  repeat (any_goals (first | assumption | wp_step))
  refine codeAny_mono (made_led (E := E) (.ref l) (Q1 := fun x u1 => x = .ref u.heap.objs.size ∧ u1 = { u with heap := u.heap.push { cls := .type "set", dict := none, data := .set #[] 0 (.fresh 0 0 (!w.params.followText "set-order")) } }) ⟨rfl, rfl⟩) fun r1 u1 h1 => ?_
  cases r1 with
  | error e => exact h1
  | ok fl =>
    cases fl with
    | ret x =>
      obtain ⟨rfl, rfl⟩ := h1
      have sr0 : SetR w (u.heap.push { cls := .type "set", dict := none, data := .set #[] 0 (.fresh 0 0 (!w.params.followText "set-order")) }) u.heap.objs.size (fun _ => false) 0 := setR_fresh w
      have ty0 : Shared.TypeIs { u with heap := u.heap.push { cls := .type "set", dict := none, data := .set #[] 0 (.fresh 0 0 (!w.params.followText "set-order")) } } (.ref u.heap.objs.size) "set" := ⟨_, Heap.get?_push_size _ rfl, rfl⟩
      generalize hob : ({ cls := .type "set", dict := none, data := .set #[] 0 (.fresh 0 0 (!w.params.followText "set-order")) } : Obj) = ob at sr0 ty0
      have getS : (u.heap.push ob).get? u.heap.objs.size = some { cls := .type "set", dict := none, data := .set #[] 0 (.fresh 0 0 (!w.params.followText "set-order")) } := by
        rw [hob]
        exact Heap.get?_push_size _ (by rw [← hob]; rfl)
      have i1 := F.called_set.init.lookup
      have i2 := F.called_set.init.bind (.ref u.heap.objs.size)
      repeat (any_goals (first | assumption | wp_step))
      refine codeAny_mono (codeAny_call_builtin (R := wants (fun y u2 => y = .none ∧ ∃ h2 tk S m, u2 = { u with heap := h2, toks := tk } ∧ SetR w h2 u.heap.objs.size S m ∧ (∀ k, S k = true → k ∈ ns) ∧ m ≤ ns.length ∧
          (∀ b o, b < u.heap.objs.size → u.heap.get? b = some o → h2.get? b = some o)) E) F.called_set.init.plain F.entry_set_init (check_set_init_1 ty0 ?_)) fun r2 u2 h2 => ?_
      · have hl1 : (u.heap.push ob).IsList l its := hl.push _
        obtain ⟨o1, at1, cl1, n1, da1⟩ := hl1
        obtain ⟨ocl, odi, oda, osl⟩ := o1
        simp only at cl1 da1
        subst cl1
        subst da1
        have s1 := F.sub_list_set
        have s2 := F.sub_list_frozenset
        have s3 : (Value.type "list" == Value.type "dict") = false := by decide
        have hl2 : (u.heap.push ob).IsList l its := hl.push _
        unfold Builtin.«set.__init__» noKeywords Builtin.Frozenset.updateFrom
        generalize hgen : pyIter = gen
        wp_walk
        subst hgen
        refine wpAny_pyIter_list hl2 ?_
        refine wpAny_bind (wpAny_runValue ?_)
        have below : l < u.heap.objs.size := by
          obtain ⟨o, e, _⟩ := hl
          exact Heap.lt_size e
        have nh : A.in1.in1.in1.handled = none := by simp [calm]
        have apart : l ≠ (u.heap.push ob).objs.size := by
          rw [Heap.size_push]
          exact Nat.ne_of_lt (Nat.lt_succ_of_lt below)
        have far : u.heap.objs.size ∉ [(u.heap.push ob).objs.size, l] := fun z => by
          rw [Heap.size_push] at z
          rcases List.mem_cons.mp z with z | z
          · exact Nat.ne_of_lt (Nat.lt_succ_self _) z
          · exact Nat.ne_of_gt below (List.mem_singleton.mp z)
        refine fill_turns (ns := ns) ((Walks.list nh _ l apart its).toS) sz (fun i v hv => hin.int_at i v (by rw [Array.getElem?_toList]; exact hv)) far room ns.length 0 _ (by omega) ⟨⟨_, Heap.get?_push_size _ rfl, rfl, rfl⟩, hl2.push _⟩ ⟨_, 0, sr0.at fun o e => Heap.get?_push_of_some _ e, (fun _ z => nomatch z), Nat.le_refl _⟩ fun u3 S m mv sr hS hm => ?_
        obtain ⟨y1, y2, y3, y4, y5⟩ := u3
        obtain rfl : y2 = u.gens := mv.gens
        obtain rfl : y3 = u.drawn := mv.drawn
        obtain rfl : y5 = u.os := mv.os
        refine (show wpAny _ _ _ _ _ _ from wpAny_pure (show wpAny _ _ (ret Value.none) _ _ _ from wpAny_pure ⟨rfl, y1, y4, S, m, rfl, sr, hS, hm, fun b o hb e => ?_⟩))
        refine mv.heap b o (fun z => ?_) (Heap.get?_push_of_some _ (Heap.get?_push_of_some _ e))
        rcases List.mem_cons.mp z with z | z
        · exact Nat.ne_of_lt hb z
        · rw [List.mem_singleton.mp z, Heap.size_push] at hb
          exact Nat.not_lt_of_gt (Nat.lt_succ_self _) hb
      · cases r2 with
        | error e => exact h2
        | ok fl2 =>
          cases fl2 with
          | ret y =>
            obtain ⟨rfl, h3, tk, S, m, rfl, sr, hS, hm, kp⟩ := h2
            repeat (any_goals (first | assumption | wp_step))
            exact go _ _ S m sr hS hm kp
          | _ => exact h2.elim
    | _ => exact h1.elim
theorem call_setR {X : Cx} (hc : X.calm = true) : CallR X (.type "set") (fun xs H Q => ∃ (a : Addr) (ns : List Int), xs = [.ref a] ∧ SqL X.K H a (ns.map V.int) ∧ ns.length ≤ 40 ∧ ∀ p S n, H p = none → (∀ k, S k = true → k ∈ ns) → n ≤ ns.length → Q (.ref p) (upd H p (SetO X.w p S n))) := by
  intro pins s σ H xs us Q I r h
  obtain ⟨a, ns, rfl, ha, hz, q⟩ := h
  obtain ⟨u, rfl, e1⟩ := vals1 r
  cases (show u = Value.ref a from e1)
  obtain ⟨its, rv, pl, _⟩ := I.list ha
  have il := rv.length
  rw [List.length_map] at il
  refine set_ints (ns := ns) (I.ok.hd hc) pl.isList (by simpa using rv.ints) (Nat.lt_of_le_of_lt (by omega) (by decide : 41 < scanBound)) fun h2 tk S m sr hS hm keep => ?_
  have J := I.laid (t' := tk) (a := s.heap.objs.size) (o := SetO X.w s.heap.objs.size S m) (fun b o e => keep b o (Heap.lt_size e) e) (Nat.le_refl _) (setO_new sr)
  exact ⟨.ref s.heap.objs.size, _, J, rfl, q _ _ _ (I.hok.fresh (Nat.le_refl _)) hS hm⟩
end
end LM
-- EX
/-! errors of own classes whose __init__ tells the class's name: C.__name__, e.__class__, isinstance, the whole of a raise -/
namespace LX
open PySem PySem.W PySem.Calls PyProof.Rows Builtin Builtin.ObjectAttr Builtin.Getset_descriptor
section
variable {prog : Program} {w : World} {A : Around} {E : Value → Shared → Prop} {s : Shared} {K : Frag} {R : Result → Shared → Prop} {C : Addr}
/-- the name that a class keeps in its slots -/
theorem kept_name {tp v : Value} {o : Obj} (X : K.In s.heap) (tC : typeIn K (.ref C) = some (.type "type")) (ho : K.lookup C = some o) (hs : o.slots[2]? = some (some v)) (h : R (.ok (.ret v)) s) :
    codeAny (model prog w) A (.call (.builtin "getset_descriptor.__get__") ⟨[.builtin "type.__name__", .ref C, tp], []⟩) R s := by
  obtain ⟨hp, g, dr, tk, os⟩ := s
  have isTy : Looks (model prog w) hp (typeOf (.ref C)) (.type "type") := looks_typeIn X tC
  have same : Looks (model prog w) hp (isSubtype (.type "type") (.type "type")) true := .of_pure (by rw [isSubtype_type]; kernel_rfl)
  refine codeAny_call_builtin KF.slot_gs.plain KF.entry_gs (KF.slot_gs.check _ _ _ _ _ _ _ _ ktyn_type (KF.args_gs _ _ _) ?_)
  unfold Builtin.«getset_descriptor.__get__» descrGet
  rw [show descrGetArgs ⟨[.builtin "type.__name__", .ref C, tp], []⟩ = pure (.builtin "type.__name__", some (.ref C), given tp) by kernel_rfl]
  refine wpAny_bind (wpAny_pure ?_); unfold descrGetter descrCheckInstance descrNameAndClass isInstance
  simp only [ktyn_owner]; repeat lk
  refine ⟨Code.quiet_builtin _ (by decide +kernel), codeAny_builtin ktyn_entry ?_⟩
  unfold Builtin.«type.__name__» keptObject slotAt; dsimp only
  refine wpAny_bind (wpAny_bind (wpAny_loadPart_at (X _ _ ho) (wpAny_pure ?_))); rw [hs]
  exact wpAny_pure h
theorem name_of_class {v : Value} {o : Obj} {ex : Bool} {Q : Value → Shared → Prop} (X : K.In s.heap) (hr : readsIn K C (.type "type") = true)
    (e : findCls K (.ref C) (.type "type") "__name__" = some (.get (.builtin "getset_descriptor.__get__") (.builtin "type.__name__") (.ref C) (.type "type")))
    (tC : typeIn K (.ref C) = some (.type "type")) (ho : K.lookup C = some o) (hs : o.slots[2]? = some (some v)) (hv : handedIn v = true) (h : Q v { s with toks := s.toks + 1 }) :
    wpAny (model prog w) A (getAttr (.ref C) "__name__" ex) Q E s := cls_bind X hr e (wpAny_call (kept_name (s := { s with toks := s.toks + 1 }) X tC ho hs (handed_on hv h)))
/-- what the written part says of an own error class -/
structure Own (K : Frag) (D : Addr) : Prop where
  cl : (clsIn K D).isSome = true
  ga : findIn K (.ref D) "__getattribute__" = some (some (.builtin "BaseException.__getattribute__"))
  gt : findIn K (.ref D) "__getattr__" = some none
  sub : subIn K (.ref D) (.type "BaseException") = some true
  at_ : findIn K (.ref D) "__class__" = some (some (.builtin "object.__class__"))
  sp : specialIn K (.builtin "object.__class__") "__get__" = some (some (.builtin "getset_descriptor.__get__"))
  tk : takesIn K (.builtin "object.__class__") = some true
  mro : mroIn K D (.type "object") = some true
theorem class_of_error {x D : Addr} {ox : Obj} {od : Option Obj} {ex : Bool} {Q : Value → Shared → Prop} (T : Own K D) (X : K.In s.heap) (I : InstAt s.heap x ox D od) (h : Q (.ref D) { s with toks := s.toks + 1 }) :
    wpAny (model prog w) A (getAttr (.ref x) "__class__" ex) Q E s := by
  have hf : findObj K D od "__class__" = some (.bind (.builtin "getset_descriptor.__get__") (.builtin "object.__class__")) := findObj_dataE T.cl T.at_ T.sp T.tk
  obtain ⟨hp, g, d, t, os⟩ := s
  have l0 := I.type (M := model prog w); have l1 := looks_findIn (M := model prog w) X T.ga
  have l2 := looks_findIn (M := model prog w) X T.gt; have l3 := looks_find (M := model prog w) X I hf
  have isE : Looks (model prog w) hp (isInstance (.ref x) (.type "BaseException")) true := l0.andThen (looks_subIn X T.sub)
  have n2 : (Value.builtin "BaseException.__getattribute__" == Value.builtin "object.__getattribute__") = false := by decide +kernel
  unfold getAttr getAttrBy
  refine wpAny_bind (wpAny_mkText (wpAny_holding (wpAny_bind (l0.at (wpAny_bind (l1.at ?_))))))
  show wpAny _ _ (if (onTheHeap (Value.ref D) && Value.builtin "BaseException.__getattribute__" == Value.builtin "object.__getattribute__") = true then _ else _) _ _ _; rw [n2, Bool.and_false, if_neg Bool.false_ne_true]
  unfold getAttrByItsOwn hookBefore; refine wpAny_bind ?_; rw [if_pos (show onTheHeap (Value.ref D) = true from rfl)]
  refine l2.at (wpAny_bind (wpAny_attempt (wpAny_holding ?_)))
  unfold callGetattribute boundAndCalled; rw [show (ex && onTheHeap (Value.builtin "BaseException.__getattribute__")) = false by cases ex <;> rfl, if_neg Bool.false_ne_true, PySem.F.excAttr_ValueError.ga.bind (.ref x)]
  refine wpAny_bind (wpAny_pure ?_); show wpAny _ _ (call (.builtin "BaseException.__getattribute__") [.ref x, .str "__class__" t]) _ _ _
  refine wpAny_call (codeAny_call_builtin PySem.F.excAttr_ValueError.ga.plain PySem.F.entry_bexc_ga (@PySem.W.check_slot (model prog w) _ _ ⟨hp, g, d, t + 1, os⟩ "BaseException.__getattribute__" "BaseException" "__getattribute__" (.ref x) [.str "__class__" t] [] _ (by decide +kernel) (by decide +kernel) isE (PySem.F.args_bexc_ga (.ref x) (.str "__class__" t)) ?_))
  unfold Builtin.«object.__getattribute__»; refine wpAny_bind (wpAny_of_eq (a := ((Value.ref x : Value), [Value.str "__class__" t])) (by first | rfl | (simp only [slotArgs]; rfl)) ?_)
  refine wpAny_bind (wpAny_pure (wpAny_bind (l0.at (wpAny_bind (l3.at (wpAny_bind (wpAny_holding (wpAny_call (class_get (s := ⟨hp, g, d, t + 1, os⟩) (ox := ox) (od := od) X I T.mro ?_)))))))))
  refine wpAny_pure ?_; show wpAny _ _ (handedOut (.ref D)) _ _ _; rw [handedOut_of (v := .ref D) rfl]
  first | exact wpAny_pure h | exact wpAny_pure (wpAny_pure h)
end
end LX
namespace LX
open PySem PySem.Spec PyProof.Rows L2
/-- .. and of its kept name -/
structure Named (K : PySem.W.Frag) (D : Addr) (nm : Str) : Prop where
  own : Own K D
  rd : PySem.W.readsIn K D (.type "type") = true
  fc : PySem.W.findCls K (.ref D) (.type "type") "__name__" = some (.get (.builtin "getset_descriptor.__get__") (.builtin "type.__name__") (.ref D) (.type "type"))
  ty : PySem.W.typeIn K (.ref D) = some (.type "type")
  lk : ∃ (o : Obj) (t : Tok), K.lookup D = some o ∧ o.slots[2]? = some (some (.str nm t))
  sz : nm.length ≤ 1000
def tCn (K : PySem.W.Frag) (te : TE) : TE := fun σ H Q => te σ H fun x H1 => ∃ (a D : Addr) (nm : Str), x = .ref a ∧ H1 a = some (exo a D none) ∧ Named K D nm ∧ Q (.str nm) H1
/-- self.__class__.__name__ -/
theorem pe_cn {X : Cx} {e : Expr} {te : TE} {p1 p2 : Pos} (he : PE X e te) (hb : attributeBase e "__class__" X.env (eval e X.env) = eval e X.env := by rfl)
    (hb2 : attributeBase (.Attribute e "__class__" p1) "__name__" X.env (eval (.Attribute e "__class__" p1) X.env) = eval (.Attribute e "__class__" p1) X.env := by rfl) : PE X (.Attribute (.Attribute e "__class__" p1) "__name__" p2) (tCn X.K te) := by
  refine ⟨fun pins s σ H Q I h => attr_of hb2 (attr_of hb (thn (he.run pins s σ H _ I h) fun u s1 hh => ?_))⟩
  obtain ⟨x, H1, J, rx, a, D, nm, rfl, ea, T, q⟩ := hh
  obtain rfl : u = Value.ref a := rx
  obtain ⟨t1, hg⟩ := exo_at J.hok ea
  obtain ⟨o, tk, hlk, hsl⟩ := T.lk
  refine class_of_error (od := none) T.own J.kIn ⟨hg, rfl, rfl, True.intro⟩ ?_
  exact name_of_class (s := { s1 with toks := s1.toks + 1 }) J.kIn T.rd T.fc T.ty hlk hsl rfl ⟨.str nm, H1, (J.tok _).tok _, ⟨tk, rfl⟩, q⟩
/-- isinstance(e, c) of a caught error that has fields -/
def rIsD (K : PySem.W.Frag) (D a dd : Addr) : List V → Hp → VK → Prop := fun xs H Q => ∃ (c : V) (cv : Value) (b : Bool) (fs : List (Str × V)), xs = [.ref a, c] ∧ ClsV c cv ∧ H dd = some (.xd fs) ∧ PySem.W.kitOne K (.ref D) cv = some b ∧ Q (.bl b) H
theorem call_isD {X : Cx} {a D dd : Addr} {oe : Obj} {pn : List (Addr × Obj)} (T : Own X.K D) (hz : Zc (.ref D) (some dd) oe) (hf : ∃ vs, oe.data = .fields vs) : CallR (X.suite a ((a, oe) :: pn)) (.builtin "isinstance") (rIsD X.K D a dd) := by
  intro pins s σ H xs us Q I r h
  obtain ⟨c, cv, b, fs, rfl, hcv, hdd, e, q⟩ := h
  obtain ⟨u1, u2, rfl, r1, r2⟩ := vals2 r
  obtain rfl : u1 = Value.ref a := r1
  have ec := hcv.eq r2
  subst ec
  obtain ⟨hget, _⟩ := I.pin (a, oe) (List.mem_append_left _ List.mem_cons_self)
  obtain ⟨vs, hv⟩ := hf
  have hx : ObjOk X.prog X.w H s.heap dd (.xd fs) := I.hok dd _ hdd
  obtain ⟨mA, hns, _⟩ := hx
  obtain ⟨od, ho, _⟩ := lookIn_ns hns
  have J : PySem.W.InstAt s.heap a oe D (some od) := ⟨hget, hz.1, by unfold PySem.W.notCls; rw [hv] <;> rfl, by rw [hz.2]; exact ho⟩
  exact PySem.W.kia_one (PySem.W.kitx_exc T.cl T.ga T.gt T.sub T.at_ T.sp T.tk T.mro) I.kIn J e (fun z => nomatch z) fun tk => ⟨.bl b, H, I.tok tk, rfl, q⟩
end LX
-- EY
/-! further generic texts: // by a divisor of any sign, isinstance of a caught error whose class is told by the reading, the facts of an own error class that keeps a number -/
namespace LX
open PySem PySem.Spec PyProof.Rows L2
def CDivWN (_ j : Int) : Prop := j ≠ 0 ∧ j.natAbs.log2 < 9000
section
variable {X : Cx}
theorem op_fdivWN : OpR X (binaryOp .FloorDiv) (rI CDivWN fun i j => .int (i.fdiv j)) := opI fun _ _ _ _ _ _ _ hc q => floordiv_int hc.1 q (.inl (PyProof.noPylong_of_log2 hc.2))
end
def rIsX (K : PySem.W.Frag) (a : Addr) (cls : Value) (d : Option Addr) : List V → Hp → VK → Prop := fun xs H Q => ∃ (D dd : Addr) (c : V) (cv : Value) (b : Bool) (fs : List (Str × V)), cls = .ref D ∧ d = some dd ∧ Own K D ∧ xs = [.ref a, c] ∧ ClsV c cv ∧
  H dd = some (.xd fs) ∧ PySem.W.kitOne K (.ref D) cv = some b ∧ Q (.bl b) H
theorem call_isX {X : Cx} {a : Addr} {cls : Value} {d : Option Addr} {oe : Obj} {pn : List (Addr × Obj)} (hz : Zc cls d oe) (hf : ∃ vs, oe.data = .fields vs) : CallR (X.suite a ((a, oe) :: pn)) (.builtin "isinstance") (rIsX X.K a cls d) := by
  intro pins s σ H xs us Q I r h
  obtain ⟨D, dd, c, cv, b, fs, rfl, rfl, T, ex, hcv, hdd, e, q⟩ := h
  exact call_isD T hz hf pins s σ H xs us Q I r ⟨c, cv, b, fs, ex, hcv, hdd, e, q⟩
theorem text_len {i : Int} {k : Nat} (hk : 0 < k) (h : i.natAbs < 10 ^ k) : (Str.ofString (toString i)).length ≤ k + 1 := by
  have e := PySem.int_text_length_le10 hk h
  rw [PyProof.Rows.ofString_length]
  exact e
theorem bits_le {i : Int} {k : Nat} (h : i.natAbs < 2 ^ k) : Builtin.Int.intBits i ≤ k := PyProof.Rows.intBits_le h
/-- the base of the text's errors -/
structure Err0 (K : PySem.W.Frag) (mg : Str → Option Value) (st : Stmt) where
  CM : Addr
  f : Addr
  fd : FuncData
  F : Fun K "__init__" "ModelError.__init__" st f fd
  b : Binds K fd ["self", "at"] []
  tI : PySem.W.typeIn K (.ref f) = some (.type "function")
  gM : mg "ModelError" = some (.ref CM)
  mV : mg "ValueError" = none
  vV : PySem.W.findCls K (.type "ValueError") (.type "type") "__init__" = some (.val (.builtin "ValueError.__init__"))
/-- one of them -/
structure ErrC (K : PySem.W.Frag) (mg : Str → Option Value) (x : Str) (CM f : Addr) where
  C : Addr
  nm : Str
  named : Named K C nm
  oex : OexC K C
  noAt : PySem.W.findIn K (.ref C) "at" = some none
  iC : PySem.W.findIn K (.ref C) "__init__" = some (some (.ref f))
  g : mg x = some (.ref C)
  exm : PySem.W.exmOne K (.ref C) (.ref CM) = some true
  kit : PySem.W.kitOne K (.ref C) (.ref C) = some true
  xf : XfC K C
/-- an error of the class at C is taken by a clause for the class at S above it -/
theorem exm_is {K : PySem.W.Frag} {S C : Addr} (h1 : PySem.W.subIn K (.ref S) (.type "BaseException") = some true) (h2 : PySem.W.isClsIn K S = true) (h3 : PySem.W.typeIn K (.ref S) = some (.type "type")) (h4 : PySem.W.subIn K (.ref C) (.ref S) = some true) :
    PySem.W.exmOne K (.ref C) (.ref S) = some true := by
  have a : ((PySem.W.clsIn K S).isSome && PySem.W.typeIn K (.ref S) == some (.type "type")) = true := by
    rw [show (PySem.W.clsIn K S).isSome = true from h2, h3]; rfl
  unfold PySem.W.exmOne
  rw [h1, if_pos (by rfl)]
  show (if ((PySem.W.clsIn K S).isSome && PySem.W.typeIn K (.ref S) == some (.type "type")) = true then PySem.W.subIn K (.ref C) (.ref S) else none) = some true
  rw [if_pos a, h4]
theorem refs_one (c : Addr) : PySem.HandSPX.refsVE [.ref c, .type "ValueError", .type "Exception", .type "BaseException", .type "object"] = true := by
  show PySem.HandSPX.refsVE PySem.HandSPX.veTail = true
  decide +kernel
theorem kit_self (K : PySem.W.Frag) (C : Addr) : PySem.W.kitOne K (.ref C) (.ref C) = some true := by
  unfold PySem.W.kitOne
  rw [if_pos (by simp)]
/-- a and b as a value, where b changes nothing and its answer is known -/
def tAndP (ta tb : TE) : TE := fun σ H Q => ta σ H fun x H1 => ∃ c r, x = .bl c ∧ (c = true → ∀ Q' : VK, Q' (.bl r) H1 → tb σ H1 Q') ∧ Q (.bl (c && r)) H1
theorem pe_andP {X : Cx} {a b : Expr} {rest : List Expr} {ta tb : TE} {pos : Pos} (ha : PE X a ta) (hb : PE X (.BoolOp .And (b :: rest) pos) tb) : PE X (.BoolOp .And (a :: b :: rest) pos) (tAndP ta tb) := by
  refine ⟨fun pins s σ H Q I h => ?_⟩
  refine BoolOp_and (thn (ha.run pins s σ H _ I h) fun v s1 ⟨x, H1, I1, r1, q1⟩ => ?_)
  obtain ⟨c, r, rfl, hA, q⟩ := q1
  cases r1
  refine wpAny_truthy_bool ?_
  cases c with
  | true => exact hb.run pins s1 σ H1 Q I1 (hA rfl Q q)
  | false => exact ⟨.bl false, H1, I1, rfl, q⟩
/-- an error is let go that stood above H -/
theorem upd_back {H : Hp} {a d : Addr} {o1 o2 o3 x : HO} (ha : H a = none) (hd : d ≠ a) : upd (del (upd (upd (upd H a o1) d o2) a o3) a) d x = upd H d x := by
  funext b
  by_cases h1 : b = d
  · rw [h1, upd_same, upd_same]
  · rw [upd_ne h1, upd_ne h1]
    by_cases h2 : b = a
    · rw [h2, del_same, ha]
    · rw [del_ne h2, upd_ne h2, upd_ne h1, upd_ne h2]
/-- __init__ of the text's errors, at an error of the class C -/
def sp_init (K : PySem.W.Frag) : Sp := fun vs H Q _ => ∃ (e C : Addr) (nm : Str) (i : Int), vs = [.ref e, .int i] ∧ H e = some (exo e C none) ∧ Named K C nm ∧ OexC K C ∧ PySem.W.findIn K (.ref C) "at" = some none ∧ i.natAbs < 10 ^ 12 ∧
  ∀ d, H d = none → d ≠ e → Q .non (upd (upd H d (exd d [("at", .int i)])) e (exo e C (some d)))
/-- what a raise asks when the class's __init__ is as above -/
theorem raised {K : PySem.W.Frag} {mg : Str → Option Value} {x : Str} {CM f : Addr} (T : ErrC K mg x CM f) {H : Hp} {n : Int} {E : XK} (hn : n.natAbs < 10 ^ 12) (q : ∀ d, H d = none → E (.ref T.C) (some d) (upd H d (.xd [("at", .int n)]))) (a : Addr) (ha : H a = none) :
    sp_init K (.ref a :: ([.int n] ++ [])) (upd H a (exo a T.C none)) (fun v H2 => v = .non ∧ ∃ (d : Addr) (fs : List (Str × V)), H2 a = some (exo a T.C (some d)) ∧ H2 d = some (exd d fs) ∧ H d = none ∧ E (.ref T.C) (some d) (upd (del H2 a) d (.xd fs))) (fun _ _ _ => False) := by
  refine ⟨a, T.C, T.nm, n, rfl, upd_same, T.named, T.oex, T.noAt, hn, fun d hd ne => ⟨rfl, d, [("at", .int n)], upd_same, ?_, ?_, ?_⟩⟩
  · rw [upd_ne ne]; exact upd_same
  · rw [upd_ne ne] at hd; exact hd
  · rw [upd_ne ne] at hd
    rw [upd_back ha ne]
    exact q d hd
end LX
-- EZ
/-! the number that a caught error keeps, where the reading tells which class it has -/
namespace LX
open PySem PySem.Spec PyProof.Rows L2
def tXfA (K : PySem.W.Frag) (a : Addr) (cls : Value) (d : Option Addr) (n : Str) (te : TE) : TE := fun σ H Q => ∃ C : Addr, XfC K C ∧ PySem.W.findIn K (.ref C) n = some none ∧ tXf a cls d C n te σ H Q
theorem pe_xfA {X : Cx} {a : Addr} {oe : Obj} {cls : Value} {d : Option Addr} {pn : List (Addr × Obj)} {e : Expr} {te : TE} {pos : Pos} {n : Str}
    (hz : Zc cls d oe) (hf : ∃ vs, oe.data = .fields vs) (he : PE (X.suite a ((a, oe) :: pn)) e te) (hb : attributeBase e n X.env (eval e X.env) = eval e X.env := by rfl) :
    PE (X.suite a ((a, oe) :: pn)) (.Attribute e n pos) (tXfA X.K a cls d n te) :=
  ⟨fun pins s σ H Q I ⟨_, T, hno, h⟩ => (pe_xf T hno hz hf he hb).run pins s σ H Q I h⟩
end LX
-- QF
/-! fractions in lowest terms, Euclid's turns -/
namespace QF
/-- the greatest common divisor, as a whole number; with the sign of the lower part; the fraction -/
def gc (n d : Int) : Int := ((Nat.gcd n.natAbs d.natAbs : Nat) : Int)
def sg (n d : Int) : Int := if d < 0 then -gc n d else gc n d
def low (n d : Int) : Int × Int := (n.fdiv (sg n d), d.fdiv (sg n d))
theorem gc_pos {n d : Int} (h : d ≠ 0) : 0 < gc n d := by
  have : 0 < Nat.gcd n.natAbs d.natAbs := Nat.gcd_pos_of_pos_right _ (by omega)
  show (0 : Int) < ((Nat.gcd n.natAbs d.natAbs : Nat) : Int)
  omega
theorem gc_le {n d : Int} (h : d ≠ 0) : (gc n d).natAbs ≤ d.natAbs := by
  show (((Nat.gcd n.natAbs d.natAbs : Nat) : Int)).natAbs ≤ _
  rw [Int.natAbs_natCast]
  exact Nat.gcd_le_right _ (by omega)
theorem sg_ne {n d : Int} (h : d ≠ 0) : sg n d ≠ 0 := by
  have := gc_pos (n := n) h
  unfold sg
  split <;> omega
theorem sg_le {n d : Int} (h : d ≠ 0) : (sg n d).natAbs ≤ d.natAbs := by
  have := gc_le (n := n) h
  unfold sg
  split
  · rw [Int.natAbs_neg]; exact this
  · exact this
/-- what the fraction is: both parts times one number; the lower above 0; nothing in common -/
theorem low_is {n d : Int} (h : d ≠ 0) : ∃ g, g ≠ 0 ∧ n = g * (low n d).1 ∧ d = g * (low n d).2 ∧ 0 < (low n d).2 ∧ Nat.gcd (low n d).1.natAbs (low n d).2.natAbs = 1 := by
  have hs := sg_ne (n := n) h
  have hp := gc_pos (n := n) h
  obtain ⟨a, ha⟩ : ∃ k, n = gc n d * k := by
    obtain ⟨k, hk⟩ := Nat.gcd_dvd_left n.natAbs d.natAbs
    have : gc n d ∣ n := Int.ofNat_dvd_left.mpr ⟨k, hk⟩
    exact this
  obtain ⟨b, hb⟩ : ∃ k, d = gc n d * k := by
    obtain ⟨k, hk⟩ := Nat.gcd_dvd_right n.natAbs d.natAbs
    have : gc n d ∣ d := Int.ofNat_dvd_left.mpr ⟨k, hk⟩
    exact this
  have co : Nat.gcd a.natAbs b.natAbs = 1 := by
    have e1 : n.natAbs = (Nat.gcd n.natAbs d.natAbs) * a.natAbs := by
      have := congrArg Int.natAbs ha
      rw [Int.natAbs_mul] at this
      exact this
    have e2 : d.natAbs = (Nat.gcd n.natAbs d.natAbs) * b.natAbs := by
      have := congrArg Int.natAbs hb
      rw [Int.natAbs_mul] at this
      exact this
    have e3 : Nat.gcd n.natAbs d.natAbs = Nat.gcd n.natAbs d.natAbs * Nat.gcd a.natAbs b.natAbs := by
      rw [← Nat.gcd_mul_left, ← e1, ← e2]
    have p : 0 < Nat.gcd n.natAbs d.natAbs := Nat.gcd_pos_of_pos_right _ (by omega)
    have e4 : Nat.gcd n.natAbs d.natAbs * Nat.gcd a.natAbs b.natAbs = Nat.gcd n.natAbs d.natAbs * 1 := by omega
    exact Nat.eq_of_mul_eq_mul_left p e4
  have f : ∀ x k : Int, x = sg n d * k → x.fdiv (sg n d) = k := fun x k hk => by
    have := Int.mul_fdiv_cancel_left k hs
    rw [← hk] at this
    exact this
  by_cases hd : d < 0
  · have es : sg n d = -gc n d := if_pos hd
    have f1 : (low n d).1 = -a := f n (-a) (by rw [es, Int.neg_mul_neg]; exact ha)
    have f2 : (low n d).2 = -b := f d (-b) (by rw [es, Int.neg_mul_neg]; exact hb)
    refine ⟨sg n d, hs, ?_, ?_, ?_, ?_⟩
    · rw [f1, es, Int.neg_mul_neg]; exact ha
    · rw [f2, es, Int.neg_mul_neg]; exact hb
    · rw [f2]
      have : b < 0 := by
        rcases Int.lt_trichotomy b 0 with z | z | z
        · exact z
        · rw [z, Int.mul_zero] at hb; omega
        · have := Int.mul_pos hp z; omega
      omega
    · rw [f1, f2, Int.natAbs_neg, Int.natAbs_neg]; exact co
  · have es : sg n d = gc n d := if_neg hd
    have f1 : (low n d).1 = a := f n a (by rw [es]; exact ha)
    have f2 : (low n d).2 = b := f d b (by rw [es]; exact hb)
    refine ⟨sg n d, hs, ?_, ?_, ?_, ?_⟩
    · rw [f1, es]; exact ha
    · rw [f2, es]; exact hb
    · rw [f2]
      rcases Int.lt_trichotomy b 0 with z | z | z
      · have := Int.mul_neg_of_pos_of_neg hp z; omega
      · rw [z, Int.mul_zero] at hb; omega
      · exact z
    · rw [f1, f2]; exact co
theorem one_form {a b m e : Int} (hb : 0 < b) (he : 0 < e) (c1 : Nat.gcd a.natAbs b.natAbs = 1) (c2 : Nat.gcd m.natAbs e.natAbs = 1) (h : a * e = m * b) : a = m ∧ b = e := by
  have hn : a.natAbs * e.natAbs = m.natAbs * b.natAbs := by rw [← Int.natAbs_mul, ← Int.natAbs_mul, h]
  have d1 : b.natAbs ∣ e.natAbs := Nat.Coprime.dvd_of_dvd_mul_left (k := b.natAbs) (m := a.natAbs) (by rw [Nat.coprime_comm]; exact c1) ⟨m.natAbs, by rw [hn, Nat.mul_comm]⟩
  have d2 : e.natAbs ∣ b.natAbs := Nat.Coprime.dvd_of_dvd_mul_left (k := e.natAbs) (m := m.natAbs) (by rw [Nat.coprime_comm]; exact c2) ⟨a.natAbs, by rw [← hn, Nat.mul_comm]⟩
  have e1 := Nat.dvd_antisymm d1 d2
  have e2 : b = e := by omega
  subst e2
  exact ⟨Int.eq_of_mul_eq_mul_right (by omega) h, rfl⟩
/-- two pairs of the same fraction -/
theorem low_eq {n d m e : Int} (hd : d ≠ 0) (he : e ≠ 0) (h : n * e = m * d) : low n d = low m e := by
  obtain ⟨g, g0, a1, a2, a3, a4⟩ := low_is (n := n) hd
  obtain ⟨k, k0, b1, b2, b3, b4⟩ := low_is (n := m) he
  have := one_form a3 b3 a4 b4 (by
    generalize (low n d).1 = x1 at *
    generalize (low n d).2 = x2 at *
    generalize (low m e).1 = y1 at *
    generalize (low m e).2 = y2 at *
    subst a1 a2 b1 b2
    have h2 : (g * k) * (x1 * y2) = (g * k) * (y1 * x2) := by
      grind
    exact Int.eq_of_mul_eq_mul_left (Int.mul_ne_zero g0 k0) h2)
  exact Prod.ext this.1 this.2
theorem low_inv {n d m e : Int} (hd : d ≠ 0) (he : e ≠ 0) (h : low n d = low m e) : n * e = m * d := by
  obtain ⟨g, g0, a1, a2, a3, a4⟩ := low_is (n := n) hd
  obtain ⟨k, k0, b1, b2, b3, b4⟩ := low_is (n := m) he
  rw [h] at a1 a2
  generalize (low m e).1 = y1 at *
  generalize (low m e).2 = y2 at *
  subst a1 a2 b1 b2
  grind
theorem low_ne {n d : Int} (h : d ≠ 0) : (low n d).2 ≠ 0 := by
  obtain ⟨g, g0, a1, a2, a3, a4⟩ := low_is (n := n) h
  omega
theorem low_abs {n d : Int} (h : d ≠ 0) : (low n d).1.natAbs ≤ n.natAbs ∧ (low n d).2.natAbs ≤ d.natAbs := by
  obtain ⟨g, g0, a1, a2, a3, a4⟩ := low_is (n := n) h
  have e1 := congrArg Int.natAbs a1
  have e2 := congrArg Int.natAbs a2
  rw [Int.natAbs_mul] at e1 e2
  have p : 0 < g.natAbs := by omega
  exact ⟨by rw [e1]; exact Nat.le_mul_of_pos_left _ p, by rw [e2]; exact Nat.le_mul_of_pos_left _ p⟩
/-- a fraction in lowest terms is its own -/
theorem low_self {a b : Int} (hb : 0 < b) (c : Nat.gcd a.natAbs b.natAbs = 1) : low a b = (a, b) := by
  obtain ⟨g, g0, a1, a2, a3, a4⟩ := low_is (n := a) (show b ≠ 0 by omega)
  have := one_form hb a3 c a4 (by
    generalize (low a b).1 = x1 at *
    generalize (low a b).2 = x2 at *
    rw [a1, a2]
    grind)
  exact Prod.ext this.1.symm this.2.symm
theorem low_one (n : Int) : low n 1 = (n, 1) := low_self (by decide) (Nat.gcd_one_right _)
theorem low_low {n d : Int} (h : d ≠ 0) : low (low n d).1 (low n d).2 = low n d := by
  obtain ⟨g, g0, a1, a2, a3, a4⟩ := low_is (n := n) h
  exact low_self a3 a4
theorem low_add {a D b E : Int} (hD : D ≠ 0) (hE : E ≠ 0) : low ((low a D).1 * (low b E).2 + (low b E).1 * (low a D).2) ((low a D).2 * (low b E).2) = low (a * E + b * D) (D * E) := by
  obtain ⟨g, g0, a1, a2, a3, a4⟩ := low_is (n := a) hD
  obtain ⟨k, k0, b1, b2, b3, b4⟩ := low_is (n := b) hE
  refine low_eq (Int.mul_ne_zero (by omega) (by omega)) (Int.mul_ne_zero hD hE) ?_
  generalize (low a D).1 = x1 at *
  generalize (low a D).2 = x2 at *
  generalize (low b E).1 = y1 at *
  generalize (low b E).2 = y2 at *
  subst a1 a2 b1 b2
  grind
theorem low_mul {a D b E : Int} (hD : D ≠ 0) (hE : E ≠ 0) : low ((low a D).1 * (low b E).1) ((low a D).2 * (low b E).2) = low (a * b) (D * E) := by
  obtain ⟨g, g0, a1, a2, a3, a4⟩ := low_is (n := a) hD
  obtain ⟨k, k0, b1, b2, b3, b4⟩ := low_is (n := b) hE
  refine low_eq (Int.mul_ne_zero (by omega) (by omega)) (Int.mul_ne_zero hD hE) ?_
  generalize (low a D).1 = x1 at *
  generalize (low a D).2 = x2 at *
  generalize (low b E).1 = y1 at *
  generalize (low b E).2 = y2 at *
  subst a1 a2 b1 b2
  grind
/-- fractions with one lower part -/
theorem low_add1 {a b D : Int} (hD : D ≠ 0) : low ((low a D).1 * (low b D).2 + (low b D).1 * (low a D).2) ((low a D).2 * (low b D).2) = low (a + b) D := by
  rw [low_add hD hD]
  exact low_eq (Int.mul_ne_zero hD hD) hD (by grind)
/-- the turns of Euclid's rule: what stands behind i of them -/
def Euc (B i x y : Nat) : Prop := (i = 0 ∧ x * y ≤ B) ∨ (1 ≤ i ∧ y ≤ x ∧ x * y * 2 ^ (i - 1) ≤ B)
theorem euc_step {B i x y : Nat} (h : Euc B i x y) (hy : y ≠ 0) : Euc B (i + 1) y (x % y) := by
  have hm : x % y < y := Nat.mod_lt _ (by omega)
  rcases h with ⟨rfl, h⟩ | ⟨hi, hyx, h⟩
  · refine .inr ⟨by omega, by omega, ?_⟩
    show y * (x % y) * 2 ^ 0 ≤ B
    rw [Nat.pow_zero, Nat.mul_one]
    refine Nat.le_trans ?_ h
    rw [Nat.mul_comm x y]
    exact Nat.mul_le_mul_left _ (Nat.mod_le _ _)
  · refine .inr ⟨by omega, by omega, ?_⟩
    have e : i + 1 - 1 = (i - 1) + 1 := by omega
    rw [e, Nat.pow_succ]
    have two : 2 * (x % y) ≤ x := by
      have d1 := Nat.div_add_mod x y
      have q1 : 1 ≤ x / y := (Nat.one_le_div_iff (by omega)).mpr hyx
      have : y ≤ y * (x / y) := Nat.le_mul_of_pos_right _ q1
      omega
    refine Nat.le_trans ?_ h
    have : y * (x % y) * (2 ^ (i - 1) * 2) = (2 * (x % y)) * y * 2 ^ (i - 1) := by
      simp [Nat.mul_comm, Nat.mul_left_comm, Nat.mul_assoc]
    rw [this]
    exact Nat.mul_le_mul_right _ (Nat.mul_le_mul_right _ two)
theorem euc_end {B x y : Nat} {n : Nat} (h : Euc B n x y) (hn : 1 ≤ n) (hB : B < 2 ^ (n - 1)) : y = 0 := by
  rcases h with ⟨rfl, _⟩ | ⟨_, hyx, h⟩
  · omega
  · rcases Nat.eq_zero_or_pos y with z | z
    · exact z
    · have : 1 ≤ x * y := Nat.mul_pos (by omega) z
      have : 1 * 2 ^ (n - 1) ≤ x * y * 2 ^ (n - 1) := Nat.mul_le_mul_right _ this
      omega
theorem gcd_turn (x y : Nat) : Nat.gcd y (x % y) = Nat.gcd x y := by
  rw [Nat.gcd_comm y (x % y), ← Nat.gcd_rec, Nat.gcd_comm]
/-- a common multiple of the lower parts -/
def below (ds : List Int) : Int := ds.foldl (fun f d => ((Nat.lcm f.natAbs d.natAbs : Nat) : Int)) 1
theorem below_snoc (ds : List Int) (d : Int) : below (ds ++ [d]) = ((Nat.lcm (below ds).natAbs d.natAbs : Nat) : Int) := by
  unfold below
  rw [List.foldl_append]
  rfl
theorem below_take {ds : List Int} {i : Nat} {d : Int} (h : ds[i]? = some d) : below (ds.take (i + 1)) = ((Nat.lcm (below (ds.take i)).natAbs d.natAbs : Nat) : Int) := by
  rw [List.take_succ, h]
  exact below_snoc _ _
theorem lcm_le (a b : Nat) : Nat.lcm a b ≤ a * b := Nat.div_le_self _ _
theorem below_facts {B : Nat} : ∀ (n : Nat) (ds : List Int), ds.length = n → (∀ d ∈ ds, 0 < d ∧ d.natAbs ≤ B) → 0 < below ds ∧ (below ds).natAbs ≤ B ^ n ∧ ∀ d ∈ ds, ∃ k, below ds = k * d
  | 0, ds, e, _ => by
    rw [List.length_eq_zero_iff.mp e]
    exact ⟨by decide, Nat.le_of_eq (Nat.pow_zero B).symm, fun _ z => by cases z⟩
  | n + 1, ds, e, h => by
    obtain ⟨l, d, rfl⟩ : ∃ l d, ds = l ++ [d] := ⟨ds.dropLast, ds.getLast (fun z => by rw [z] at e; simp at e), (List.dropLast_concat_getLast _).symm⟩
    rw [List.length_append] at e
    obtain ⟨h1, h2, h3⟩ := below_facts n l (by simpa using e) fun x hx => h x (List.mem_append_left _ hx)
    obtain ⟨p, q⟩ := h d (List.mem_append_right _ (List.mem_singleton.mpr rfl))
    rw [below_snoc]
    refine ⟨?_, ?_, fun x hx => ?_⟩
    · have : 0 < Nat.lcm (below l).natAbs d.natAbs := Nat.lcm_pos (by omega) (by omega)
      omega
    · rw [Int.natAbs_natCast, Nat.pow_succ]
      exact Nat.le_trans (lcm_le _ _) (Nat.mul_le_mul h2 q)
    · rcases List.mem_append.mp hx with hx | hx
      · obtain ⟨k, hk⟩ := h3 x hx
        obtain ⟨t, ht⟩ := Nat.dvd_lcm_left (below l).natAbs d.natAbs
        refine ⟨t * k, ?_⟩
        have e1 : ((Nat.lcm (below l).natAbs d.natAbs : Nat) : Int) = below l * t := by
          rw [ht, Int.natCast_mul]
          congr 1
          omega
        rw [e1, hk]
        grind
      · rw [List.mem_singleton.mp hx]
        obtain ⟨t, ht⟩ := Nat.dvd_lcm_right (below l).natAbs d.natAbs
        refine ⟨t, ?_⟩
        rw [ht, Int.natCast_mul, Int.mul_comm]
        congr 1
        omega
theorem gc_low {n d : Int} (h : d ≠ 0) : gc (low n d).1 (low n d).2 = 1 := by
  obtain ⟨g, g0, a1, a2, a3, a4⟩ := low_is (n := n) h
  show ((Nat.gcd _ _ : Nat) : Int) = 1
  rw [a4]; rfl
end QF
-- LC
/-! math.lcm of two whole numbers of at most 13,000 digits of two -/
namespace LM
open PySem PySem.Spec L2
def rLcm : List V → Hp → VK → Prop := fun vs H Q => ∃ a b : Int, vs = [V.int a, V.int b] ∧ a.natAbs < 2 ^ 6000 ∧ b.natAbs < 2 ^ 6000 ∧ Q (V.int ((Nat.lcm a.natAbs b.natAbs : Nat) : Int)) H
theorem log13 {n : Nat} (h : n < 2 ^ 6000) : ¬ n.log2 / 30 + 1 > 450 := by
  have : n.log2 < 6000 := by
    rcases Nat.eq_zero_or_pos n with rfl | z
    · rw [Nat.log2_zero]; decide
    · exact (Nat.log2_lt (by omega)).mpr h
  omega
theorem cr_lcm {X : Cx} : CallR X (Value.builtin "math.lcm") rLcm := by
  intro pins s σ H vs us Q I r h
  obtain ⟨a, b, rfl, ha, hb, q⟩ := h
  obtain ⟨t, u, rfl⟩ := Vals.int2 r
  have e : Nat.lcm 1 a.natAbs = a.natAbs := Nat.lcm_one_left _
  have hl : Nat.lcm a.natAbs b.natAbs < 2 ^ 12000 := by
    refine Nat.lt_of_le_of_lt (Nat.div_le_self _ _) ?_
    have : (2 : Nat) ^ 12000 = 2 ^ 6000 * 2 ^ 6000 := by rw [← Nat.pow_add]
    rw [this]
    exact Nat.mul_lt_mul'' ha hb
  refine call_function_meets PySem.W.MGF.kind_lcm PySem.W.MGF.plain_lcm PySem.W.MGF.entry_lcm (PySem.W.MGF.args_lcm (Value.int a t) (Value.int b u))
    (Gives.meets (PySem.W.mg_run_lcm a t b u (log13 (by
      have : (1 : Nat) < 2 ^ 6000 := Nat.one_lt_two_pow (by decide)
      omega)) (log13 (by omega)) ?_)) ?_
  · rw [e, Int.natAbs_natCast]
    refine Nat.lt_trans ?_ (by decide : 12000 < bitsLine)
    rcases Nat.eq_zero_or_pos (Nat.lcm a.natAbs b.natAbs) with z | z
    · rw [z, Nat.log2_zero]; decide
    · exact (Nat.log2_lt (by omega)).mpr hl
  · rw [e]
    exact ⟨V.int _, H, Inv.tok I (s.toks + 1), ⟨s.toks, rfl⟩, q⟩
end LM
-- B70
namespace K70
open PySem PySem.Spec PyProof.Rows L2
def topS (i : Nat) : Stmt := PySem.Challenge.pw_unsaidsizes_k70_values_that_keep_rows.main.body.getD i (.Pass ⟨0, 0, 0, 0⟩)
abbrev s_wording : Stmt := topS 2
theorem sc_wording : FnScope ["name", "at"] ["name", "at"] (defScope s_wording) := ⟨rfl, rfl, rfl, by decide +kernel, rfl, by decide +kernel, by decide +kernel⟩
abbrev s_is_exact : Stmt := topS 8
theorem sc_is_exact : FnScope ["told"] ["told"] (defScope s_is_exact) := ⟨rfl, rfl, rfl, by decide +kernel, rfl, by decide +kernel, by decide +kernel⟩
abbrev s_exact_rows : Stmt := topS 10
theorem sc_exact_rows : FnScope ["grid", "kind", "row", "one"] ["grid"] (defScope s_exact_rows) := ⟨rfl, rfl, rfl, by decide +kernel, rfl, by decide +kernel, by decide +kernel⟩
abbrev s_lowest : Stmt := topS 12
theorem sc_lowest : FnScope ["n", "d", "shared"] ["n", "d"] (defScope s_lowest) := ⟨rfl, rfl, rfl, by decide +kernel, rfl, by decide +kernel, by decide +kernel⟩
abbrev s_common_below : Stmt := topS 13
theorem sc_common_below : FnScope ["many", "found", "_", "d"] ["many"] (defScope s_common_below) := ⟨rfl, rfl, rfl, by decide +kernel, rfl, by decide +kernel, by decide +kernel⟩
abbrev s_whole : Stmt := topS 14
theorem sc_whole : FnScope ["many", "below", "n", "d"] ["many", "below"] (defScope s_whole) := ⟨rfl, rfl, rfl, by decide +kernel, rfl, by decide +kernel, by decide +kernel⟩
abbrev s_combined : Stmt := topS 15
theorem sc_combined : FnScope ["terms", "below", "numbers", "_", "value", "number", "factor"] ["terms"] (defScope s_combined) := ⟨rfl, rfl, rfl, by decide +kernel, rfl, by decide +kernel, by decide +kernel⟩
abbrev s_need_exact : Stmt := topS 18
theorem sc_need_exact : FnScope ["grid", "i", "told"] ["grid"] (defScope s_need_exact) := ⟨rfl, rfl, rfl, by decide +kernel, rfl, by decide +kernel, by decide +kernel⟩
abbrev s_need_sources : Stmt := topS 19
theorem sc_need_sources : FnScope ["grid", "sources", "i", "one"] ["grid", "sources"] (defScope s_need_sources) := ⟨rfl, rfl, rfl, by decide +kernel, rfl, by decide +kernel, by decide +kernel⟩
abbrev s_terms : Stmt := topS 20
theorem sc_terms : FnScope ["row", "lists", "e", "found", "one", "values", "k", "number"] ["row", "lists", "e"] (defScope s_terms) := ⟨rfl, rfl, rfl, by decide +kernel, rfl, by decide +kernel, by decide +kernel⟩
abbrev s_keeps_row : Stmt := topS 21
theorem sc_keeps_row : FnScope ["row", "source", "lists", "h", "degrees", "e", "one", "value"] ["row", "source", "lists", "h"] (defScope s_keeps_row) := ⟨rfl, rfl, rfl, by decide +kernel, rfl, by decide +kernel, by decide +kernel⟩
abbrev s_keeps : Stmt := topS 22
theorem sc_keeps : FnScope ["grid", "sources", "lists", "h", "row", "source", "one"] ["grid", "sources", "lists"] (defScope s_keeps) := ⟨rfl, rfl, rfl, by decide +kernel, rfl, by decide +kernel, by decide +kernel⟩
abbrev s_law_draws : Stmt := topS 24
theorem sc_law_draws : FnScope ["script", "draws", "k", "rest", "turn", "mixed"] ["script"] (defScope s_law_draws) := ⟨rfl, rfl, rfl, by decide +kernel, rfl, by decide +kernel, by decide +kernel⟩
abbrev s_law_mix : Stmt := topS 25
theorem sc_law_mix : FnScope ["draws", "k", "many", "value"] ["draws", "k", "many"] (defScope s_law_mix) := ⟨rfl, rfl, rfl, by decide +kernel, rfl, by decide +kernel, by decide +kernel⟩
abbrev s_law_trimmed : Stmt := topS 26
theorem sc_law_trimmed : FnScope ["numbers", "size", "turn"] ["numbers"] (defScope s_law_trimmed) := ⟨rfl, rfl, rfl, by decide +kernel, rfl, by decide +kernel, by decide +kernel⟩
abbrev s_law_number : Stmt := topS 27
theorem sc_law_number : FnScope ["draws", "k"] ["draws", "k"] (defScope s_law_number) := ⟨rfl, rfl, rfl, by decide +kernel, rfl, by decide +kernel, by decide +kernel⟩
abbrev s_law_element : Stmt := topS 28
theorem sc_law_element : FnScope ["draws", "k", "shares", "out", "at"] ["draws", "k", "shares"] (defScope s_law_element) := ⟨rfl, rfl, rfl, by decide +kernel, rfl, by decide +kernel, by decide +kernel⟩
abbrev s_law_likely : Stmt := topS 29
theorem sc_law_likely : FnScope ["draws", "k", "row", "scale", "shift", "out", "turn", "j", "element", "number", "n"] ["draws", "k", "row"] (defScope s_law_likely) := ⟨rfl, rfl, rfl, by decide +kernel, rfl, by decide +kernel, by decide +kernel⟩
abbrev s_law_orders : Stmt := topS 30
theorem sc_law_orders : FnScope ["draws", "k", "shares", "chosen", "order"] ["draws", "k", "shares"] (defScope s_law_orders) := ⟨rfl, rfl, rfl, by decide +kernel, rfl, by decide +kernel, by decide +kernel⟩
abbrev s_law_grid : Stmt := topS 31
theorem sc_law_grid : FnScope ["draws", "k", "many", "grid", "exact", "share", "i", "at", "row", "j"] ["draws", "k", "many"] (defScope s_law_grid) := ⟨rfl, rfl, rfl, by decide +kernel, rfl, by decide +kernel, by decide +kernel⟩
abbrev s_law_common : Stmt := topS 32
theorem sc_law_common : FnScope ["one", "two", "turn", "rest"] ["one", "two"] (defScope s_law_common) := ⟨rfl, rfl, rfl, by decide +kernel, rfl, by decide +kernel, by decide +kernel⟩
abbrev s_law_ratio : Stmt := topS 33
theorem sc_law_ratio : FnScope ["n", "d", "common"] ["n", "d"] (defScope s_law_ratio) := ⟨rfl, rfl, rfl, by decide +kernel, rfl, by decide +kernel, by decide +kernel⟩
abbrev s_law_add : Stmt := topS 34
theorem sc_law_add : FnScope ["one", "two"] ["one", "two"] (defScope s_law_add) := ⟨rfl, rfl, rfl, by decide +kernel, rfl, by decide +kernel, by decide +kernel⟩
abbrev s_law_multiply : Stmt := topS 35
theorem sc_law_multiply : FnScope ["one", "two"] ["one", "two"] (defScope s_law_multiply) := ⟨rfl, rfl, rfl, by decide +kernel, rfl, by decide +kernel, by decide +kernel⟩
abbrev s_law_drawn_ratio : Stmt := topS 36
theorem sc_law_drawn_ratio : FnScope ["draws", "k", "top", "n"] ["draws", "k"] (defScope s_law_drawn_ratio) := ⟨rfl, rfl, rfl, by decide +kernel, rfl, by decide +kernel, by decide +kernel⟩
abbrev s_law_value : Stmt := topS 37
theorem sc_law_value : FnScope ["source", "order"] ["source", "order"] (defScope s_law_value) := ⟨rfl, rfl, rfl, by decide +kernel, rfl, by decide +kernel, by decide +kernel⟩
abbrev s_law_keeps : Stmt := topS 38
theorem sc_law_keeps : FnScope ["grid", "sources", "lists", "i", "row", "top", "order", "total", "j", "k", "values", "element", "one"] ["grid", "sources", "lists"] (defScope s_law_keeps) := ⟨rfl, rfl, rfl, by decide +kernel, rfl, by decide +kernel, by decide +kernel⟩
abbrev s_law_exact_grid : Stmt := topS 39
theorem sc_law_exact_grid : FnScope ["draws", "k", "many", "grid", "kind", "row", "at"] ["draws", "k", "many"] (defScope s_law_exact_grid) := ⟨rfl, rfl, rfl, by decide +kernel, rfl, by decide +kernel, by decide +kernel⟩
abbrev s_law_sources : Stmt := topS 40
theorem sc_law_sources : FnScope ["draws", "k", "many", "out", "i", "size", "at"] ["draws", "k", "many"] (defScope s_law_sources) := ⟨rfl, rfl, rfl, by decide +kernel, rfl, by decide +kernel, by decide +kernel⟩
abbrev s_law_fitting : Stmt := topS 41
theorem sc_law_fitting : FnScope ["grid", "lists", "sources", "kind", "row", "top", "source", "order", "total", "j", "k", "element"] ["grid", "lists"] (defScope s_law_fitting) := ⟨rfl, rfl, rfl, by decide +kernel, rfl, by decide +kernel, by decide +kernel⟩
abbrev s_law_cut : Stmt := topS 42
theorem sc_law_cut : FnScope ["source", "size", "turn"] ["source"] (defScope s_law_cut) := ⟨rfl, rfl, rfl, by decide +kernel, rfl, by decide +kernel, by decide +kernel⟩
abbrev s_law_refused : Stmt := topS 43
theorem sc_law_refused : FnScope ["grid", "sources", "lists", "e"] ["grid", "sources", "lists"] (defScope s_law_refused) := ⟨rfl, rfl, rfl, by decide +kernel, rfl, by decide +kernel, by decide +kernel⟩
abbrev s_law_bad : Stmt := topS 44
theorem sc_law_bad : FnScope ["draws", "grid", "sources", "lists", "many", "at", "size", "long", "sized", "j"] ["draws", "grid", "sources", "lists"] (defScope s_law_bad) := ⟨rfl, rfl, rfl, by decide +kernel, rfl, by decide +kernel, by decide +kernel⟩
abbrev s_law_spoilt : Stmt := topS 45
theorem sc_law_spoilt : FnScope ["draws", "k", "lists", "sources", "word", "j", "at", "values", "source"] ["draws", "k", "lists", "sources"] (defScope s_law_spoilt) := ⟨rfl, rfl, rfl, by decide +kernel, rfl, by decide +kernel, by decide +kernel⟩
abbrev s_law : Stmt := topS 46
theorem sc_law : FnScope ["script", "draws", "many", "grid", "at", "size", "lists", "cut", "values", "sources", "pairs", "turn", "given", "due", "kept", "told", "j", "source"] ["script"] (defScope s_law) := ⟨rfl, rfl, rfl, by decide +kernel, rfl, by decide +kernel, by decide +kernel⟩
/-- a def as it stands behind the top -/
structure Def (K : PySem.W.Frag) (mg : Str → Option Value) (x : Str) (st : Stmt) (ps : List Str) where
  a : Addr
  fd : FuncData
  F : Fun K x x st a fd
  b : Binds K fd ps []
  g : mg x = some (.ref a)
/-- a def that holds generator expressions: its code object is known -/
structure DefT (K : PySem.W.Frag) (mg : Str → Option Value) (x : Str) (st : Stmt) (ps : List Str) where
  a : Addr
  c : Addr
  fd : FuncData
  ex : ∃ (oc : Value) (od : Option Addr) (dV kV doc pm : Value) (an : Option Addr) (ct : Value) (osl : Array (Option Value)), fd = PySem.W.fnOf x x (defArgs st) (defBody st) (defScope st) dV kV doc pm an (.ref c) ct ∧ K.lookup a = some ⟨oc, od, .func fd, osl⟩ ∧ PySem.W.codeIn K (.ref c) x = true
  kp : PySem.W.keepIn K (.ref a) = true
  b : Binds K fd ps []
  g : mg x = some (.ref a)
theorem DefT.ok {P : Program} {w : World} {K : PySem.W.Frag} {mg : Str → Option Value} {base : Heap} {x : Str} {st : Stmt} {N ps : List Str} {k : Nat} {sp : Sp} (T : DefT K mg x st ps) (S : FnScope N ps (defScope st)) (len : ∀ vs H Q E, sp vs H Q E → vs.length = ps.length)
    (hbody : ∀ (A : Around) (outer : List Env) (s : Shared) (H : Hp) (vs : List V) (Q : VK) (E : XK), Room k (A.deeper (envOfC x (defScope st) s.heap.objs.size T.a (.ref T.c))) → sp vs H Q E →
      ∃ t, PSs (cxOf CX0 P w K mg base N x (defScope st) T.a (.ref T.c) A outer s H E).nox (defBody st) t ∧ t { nx := fun _ H' => Q .non H', rt := Q } (L2.start N vs) H) : FnOk P w K mg base CX0 (k + 1) T.a T.fd ps sp := by
  obtain ⟨a, c, fd, ⟨oc, od, dV, kV, doc, pm, an, ct, osl, rfl, lk, hcd⟩, kp, b, g⟩ := T
  refine fn_of lk hcd S len fun A outer s H vs Q E hr hsp => ?_
  obtain ⟨t, h, q⟩ := hbody A outer s H vs Q E hr hsp
  exact ⟨t, h.nox, q⟩
structure Txt (K : PySem.W.Frag) (mg : Str → Option Value) where
  wording : Def K mg "_wording" s_wording ["name", "at"]
  is_exact : Def K mg "is_exact" s_is_exact ["told"]
  exact_rows : Def K mg "exact_rows" s_exact_rows ["grid"]
  lowest : Def K mg "_lowest" s_lowest ["n", "d"]
  common_below : Def K mg "common_below" s_common_below ["many"]
  whole : Def K mg "whole" s_whole ["many", "below"]
  combined : Def K mg "combined" s_combined ["terms"]
  need_exact : Def K mg "_need_exact" s_need_exact ["grid"]
  need_sources : Def K mg "_need_sources" s_need_sources ["grid", "sources"]
  terms : Def K mg "_terms" s_terms ["row", "lists", "e"]
  keeps_row : DefT K mg "_keeps_row" s_keeps_row ["row", "source", "lists", "h"]
  keeps : DefT K mg "keeps" s_keeps ["grid", "sources", "lists"]
  law_draws : Def K mg "_law_draws" s_law_draws ["script"]
  law_mix : Def K mg "_law_mix" s_law_mix ["draws", "k", "many"]
  law_trimmed : Def K mg "_law_trimmed" s_law_trimmed ["numbers"]
  law_number : Def K mg "_law_number" s_law_number ["draws", "k"]
  law_element : Def K mg "_law_element" s_law_element ["draws", "k", "shares"]
  law_likely : Def K mg "_law_likely" s_law_likely ["draws", "k", "row"]
  law_orders : Def K mg "_law_orders" s_law_orders ["draws", "k", "shares"]
  law_grid : Def K mg "_law_grid" s_law_grid ["draws", "k", "many"]
  law_common : Def K mg "_law_common" s_law_common ["one", "two"]
  law_ratio : Def K mg "_law_ratio" s_law_ratio ["n", "d"]
  law_add : Def K mg "_law_add" s_law_add ["one", "two"]
  law_multiply : Def K mg "_law_multiply" s_law_multiply ["one", "two"]
  law_drawn_ratio : Def K mg "_law_drawn_ratio" s_law_drawn_ratio ["draws", "k"]
  law_value : Def K mg "_law_value" s_law_value ["source", "order"]
  law_keeps : Def K mg "_law_keeps" s_law_keeps ["grid", "sources", "lists"]
  law_exact_grid : Def K mg "_law_exact_grid" s_law_exact_grid ["draws", "k", "many"]
  law_sources : Def K mg "_law_sources" s_law_sources ["draws", "k", "many"]
  law_fitting : Def K mg "_law_fitting" s_law_fitting ["grid", "lists"]
  law_cut : Def K mg "_law_cut" s_law_cut ["source"]
  law_refused : Def K mg "_law_refused" s_law_refused ["grid", "sources", "lists"]
  law_bad : Def K mg "_law_bad" s_law_bad ["draws", "grid", "sources", "lists"]
  law_spoilt : Def K mg "_law_spoilt" s_law_spoilt ["draws", "k", "lists", "sources"]
  law : Def K mg "law" s_law ["script"]
  m_abs : mg "abs" = none
  m_all : mg "all" = none
  m_bool : mg "bool" = none
  m_enumerate : mg "enumerate" = none
  m_int : mg "int" = none
  m_isinstance : mg "isinstance" = none
  m_len : mg "len" = none
  m_list : mg "list" = none
  m_max : mg "max" = none
  m_min : mg "min" = none
  m_range : mg "range" = none
  m_repr : mg "repr" = none
  m_sum : mg "sum" = none
  m_zip : mg "zip" = none
  x_gcd : mg "gcd" = some (.builtin "math.gcd")
  x_lcm : mg "lcm" = some (.builtin "math.lcm")
  k_MOST_VALUES : Tok
  c_MOST_VALUES : mg "MOST_VALUES" = some (.int 12 k_MOST_VALUES)
/-! ### the errors of the text -/
abbrev s_init : Stmt := inClass (topS 3) 0
theorem sc_init : FnScope ["self", "at"] ["self", "at"] (defScope s_init) := ⟨rfl, rfl, rfl, by decide +kernel, rfl, by decide +kernel, by decide +kernel⟩
structure Errs (K : PySem.W.Frag) (mg : Str → Option Value) where
  e0 : LX.Err0 K mg s_init
  NotExact : LX.ErrC K mg "NotExact" e0.CM e0.f
  WrongSize : LX.ErrC K mg "WrongSize" e0.CM e0.f
  OutOfRange : LX.ErrC K mg "OutOfRange" e0.CM e0.f
  n_NotExact_WrongSize : PySem.W.kitOne K (.ref NotExact.C) (.ref WrongSize.C) = some false
  n_NotExact_OutOfRange : PySem.W.kitOne K (.ref NotExact.C) (.ref OutOfRange.C) = some false
  n_WrongSize_NotExact : PySem.W.kitOne K (.ref WrongSize.C) (.ref NotExact.C) = some false
  n_WrongSize_OutOfRange : PySem.W.kitOne K (.ref WrongSize.C) (.ref OutOfRange.C) = some false
  n_OutOfRange_NotExact : PySem.W.kitOne K (.ref OutOfRange.C) (.ref NotExact.C) = some false
  n_OutOfRange_WrongSize : PySem.W.kitOne K (.ref OutOfRange.C) (.ref WrongSize.C) = some false
structure Tbs (base : Heap) {K : PySem.W.Frag} {mg : Str → Option Value} (T : Txt K mg) (Ps : List Addr) where
  p1 : Addr
  p2 : Addr
  keeps_row : GxR.TabB base mg T.keeps_row.c p1
  keeps : GxR.TabB base mg T.keeps.c p2
  m1 : p1 ∈ Ps
  m2 : p2 ∈ Ps
/-! ### words -/
theorem same_upd {H : Hp} {p : Addr} {o : HO} (h : H p = none) : Same H (upd H p o) := fun b x e => by
  rw [upd_ne (ne_of_none e h)]
  exact e
theorem same_over {H H' : Hp} {p : Addr} {o : HO} (s : Same H H') (h : H p = none) : Same H (upd H' p o) := fun b x e => by
  rw [upd_ne (ne_of_none e h)]
  exact s _ _ e
theorem Same.seqT {K : PySem.W.Frag} {H H' : Hp} {a : Addr} {xs : List V} (e : Same H H') (h : SqT K H a xs) : SqT K H' a xs := by
  rcases h with (h | ⟨o, h⟩) | h
  · exact .inl (.inl (e _ _ h))
  · exact .inl (.inr ⟨o, e _ _ h⟩)
  · exact .inr h
/-- two lists in step -/
inductive A2 {α β : Type} (R : α → β → Prop) : List α → List β → Prop
  | nil : A2 R [] []
  | cons {a b as bs} : R a b → A2 R as bs → A2 R (a :: as) (b :: bs)
namespace A2
variable {α β γ : Type} {R S : α → β → Prop} {as : List α} {bs : List β}
theorem mono (f : ∀ a b, R a b → S a b) : ∀ {as : List α} {bs : List β}, A2 R as bs → A2 S as bs
  | _, _, .nil => .nil
  | _, _, .cons h t => .cons (f _ _ h) (mono f t)
theorem len : ∀ {as : List α} {bs : List β}, A2 R as bs → as.length = bs.length
  | _, _, .nil => rfl
  | _, _, .cons _ t => by rw [List.length_cons, List.length_cons, len t]
theorem get : ∀ {as : List α} {bs : List β}, A2 R as bs → ∀ {i : Nat} {a : α}, as[i]? = some a → ∃ b, bs[i]? = some b ∧ R a b
  | _, _, .nil, i, a, h => by simp at h
  | _, _, .cons h t, 0, a, e => by simp at e; subst e; exact ⟨_, rfl, h⟩
  | _, _, .cons h t, i + 1, a, e => get t (i := i) (by simpa using e)
theorem get' : ∀ {as : List α} {bs : List β}, A2 R as bs → ∀ {i : Nat} {b : β}, bs[i]? = some b → ∃ a, as[i]? = some a ∧ R a b
  | _, _, .nil, i, a, h => by simp at h
  | _, _, .cons h t, 0, a, e => by simp at e; subst e; exact ⟨_, rfl, h⟩
  | _, _, .cons h t, i + 1, a, e => get' t (i := i) (by simpa using e)
theorem snoc {a : α} {b : β} (h : R a b) : ∀ {as : List α} {bs : List β}, A2 R as bs → A2 R (as ++ [a]) (bs ++ [b])
  | _, _, .nil => .cons h .nil
  | _, _, .cons x t => .cons x (snoc h t)
theorem set {a : α} {b : β} (h : R a b) : ∀ {as : List α} {bs : List β}, A2 R as bs → ∀ i : Nat, A2 R (as.set i a) (bs.set i b)
  | _, _, .nil, _ => .nil
  | _, _, .cons _ t, 0 => .cons h t
  | _, _, .cons x t, i + 1 => .cons x (set h t i)
end A2
theorem take_snoc {α : Type} {xs : List α} {i : Nat} {x : α} (h : xs[i]? = some x) : xs.take (i + 1) = xs.take i ++ [x] := by
  rw [List.take_add_one, h]; rfl
theorem a2_eq {α : Type} {f : α → V} : ∀ {ys : List V} {xs : List α}, A2 (fun v x => v = f x) ys xs → ys = xs.map f
  | _, _, .nil => rfl
  | _, _, .cons h t => by rw [h, a2_eq t]; rfl
theorem a2_ref {α : Type} {R : Addr → α → Prop} : ∀ {ys : List V} {xs : List α}, A2 (fun v x => ∃ a, v = .ref a ∧ R a x) ys xs → ∃ as : List Addr, ys = as.map V.ref ∧ A2 R as xs
  | _, _, .nil => ⟨[], rfl, .nil⟩
  | _, _, .cons ⟨a, e, h⟩ t => by
    obtain ⟨as, rfl, r⟩ := a2_ref t
    exact ⟨a :: as, by rw [e]; rfl, .cons h r⟩
theorem fm_some {α β : Type} (f : α → β) (xs : List α) : xs.filterMap (fun x => some (f x)) = xs.map f := by
  induction xs with
  | nil => rfl
  | cons x r ih =>
    rw [List.filterMap_cons]
    show f x :: _ = _
    rw [ih]; rfl
theorem some_at {α : Type} {xs : List α} {i : Nat} (h : i < xs.length) : ∃ x, xs[i]? = some x := ⟨_, List.getElem?_eq_getElem h⟩
theorem mem_at {α : Type} {xs : List α} {i : Nat} {x : α} (h : xs[i]? = some x) : x ∈ xs := List.mem_of_getElem? h
/-- a list of ints stands at a -/
def IL (H : Hp) (a : Addr) (ns : List Int) : Prop := H a = some (.lst (ns.map V.int))
theorem IL.sq {K : PySem.W.Frag} {H : Hp} {a : Addr} {ns : List Int} (h : IL H a ns) : SqL K H a (ns.map V.int) := SqL.of h
theorem IL.same {H H' : Hp} {a : Addr} {ns : List Int} (h : IL H a ns) (s : Same H H') : IL H' a ns := s _ _ h
theorem il_upd {H : Hp} {p : Addr} {ns : List Int} : IL (upd H p (.lst (ns.map V.int))) p ns := upd_same
theorem app_ints {ds : List Int} {x : Int} : ds.map V.int ++ [V.int x] = (ds ++ [x]).map V.int := by rw [List.map_append]; rfl
theorem small {n : Nat} (h : n ≤ 60000) : n ≤ sizeLine := Nat.le_trans h (by decide)
theorem small' {n : Nat} (h : n < 60000) : n < sizeLine := Nat.lt_of_lt_of_le h (by decide)
def cf (ns : List Int) (m : Nat) : Int := ns.getD m 0
theorem at_map {ns : List Int} {m : Nat} (h : m < ns.length) : ns[m]? = some (cf ns m) := by unfold cf; rw [List.getD_eq_getElem?_getD, List.getElem?_eq_getElem h]; rfl
theorem at_map' {ns : List Int} {i : Int} {m : Nat} (e : i = (m : Int)) (h : m < ns.length) : atI (ns.map V.int) i = some (V.int (cf ns m)) := by
  rw [e]
  refine atI_nat ?_
  rw [List.getElem?_map, at_map h]; rfl
/-- all but D stand as they stood -/
def SameX (D : Addr) (H H' : Hp) : Prop := ∀ c o, c ≠ D → H c = some o → H' c = some o
theorem sx {D : Addr} {H H' : Hp} (s : Same H H') : SameX D H H' := fun c o _ h => s c o h
theorem SameX.trans {D : Addr} {H H1 H2 : Hp} (a : SameX D H H1) (b : SameX D H1 H2) : SameX D H H2 := fun c o n h => b c o n (a c o n h)
theorem SameX.put {D : Addr} {H : Hp} {o : HO} : SameX D H (upd H D o) := fun c x n h => by
  rw [upd_ne n]; exact h
section
variable {J : It} {n : Nat} {G : Hp → Prop} {Y : Nat → Hp → V → Hp → Prop} {g : TG} {tt : TT} {te : TE} {vs : List Nat} {σ : L2.St} {H1 : Hp} {D : Addr} {Qd : Hp → Prop}
/-- what a comprehension wants of its turns -/
abbrev LcW (J : It) (g : TG) (tt : TT) (te : TE) (vs : List Nat) (σ : L2.St) (H1 : Hp) (D : Addr) (Qd : Hp → Prop) : Prop :=
  ∃ W : Nat → Nat → Hp → Prop, (∃ m, W 0 m (upd H1 D (.lst []))) ∧ ∀ i m H, W i m H →
      (J.stop i H ∧ Qd H) ∨ (J.go i H ∧ ∃ Nx : Hp → Prop, (∀ H', Nx H' → ∃ m', m' < m ∧ W (i + 1) m' H') ∧ ∀ x H', J.yld i H x H' → g x (wipe σ vs) H' fun σ2 H2 => wipe σ2 vs = wipe σ vs ∧ tt σ2 H2 fun b H3 =>
        if b = true then te σ2 H3 fun y H4 => ∃ acc, H4 D = some (.lst acc) ∧ acc.length < sizeLine ∧ Nx (upd H4 D (.lst (acc ++ [y]))) else Nx H3)
theorem lc_inv (w : Walk J n G Y) (R : Nat → Hp → List V → Prop) (nD : H1 D = none) (hG : ∀ H', Same H1 H' → G H') (hl : n < sizeLine) (h0 : R 0 (upd H1 D (.lst [])) [])
    (hs : ∀ i x H Hx ys, i < n → Same H1 H → H D = some (.lst ys) → R i H ys → Y i H x Hx → ∀ (Qt : VK) (Qf : Hp → Prop), (∀ y H4, Same H H4 → R (i + 1) (upd H4 D (.lst (ys ++ [y]))) (ys ++ [y]) → Qt y H4) →
      (∀ H3, Same H H3 → R (i + 1) H3 ys → Qf H3) → g x (wipe σ vs) Hx fun σ2 H2 => wipe σ2 vs = wipe σ vs ∧ tt σ2 H2 fun b H3 => if b = true then te σ2 H3 Qt else Qf H3)
    (hd : ∀ H ys, Same H1 H → H D = some (.lst ys) → R n H ys → Qd H) : LcW J g tt te vs σ H1 D Qd := by
  refine lc_it w (fun i H => Same H1 H ∧ ∃ ys, ys.length ≤ i ∧ H D = some (.lst ys) ∧ R i H ys) ⟨same_upd nD, [], Nat.le_refl _, upd_same, h0⟩ (fun i H _ p => hG H p.1) (fun i x H Hx hi p y => ?_) (fun H p => ?_)
  · obtain ⟨sm, ys, hn, hD, hR⟩ := p
    refine hs i x H Hx ys hi sm hD hR y (fun y H4 => ∃ acc, H4 D = some (.lst acc) ∧ acc.length < sizeLine ∧ Same H1 (upd H4 D (.lst (acc ++ [y]))) ∧ ∃ zs, zs.length ≤ i + 1 ∧ upd H4 D (.lst (acc ++ [y])) D = some (.lst zs) ∧ R (i + 1) (upd H4 D (.lst (acc ++ [y]))) zs) _ (fun y H4 s4 r => ?_) (fun H3 s3 r => ?_)
    · exact ⟨ys, s4 _ _ hD, by omega, same_over (sm.trans s4) nD, ys ++ [y], by rw [List.length_append]; exact Nat.succ_le_succ hn, upd_same, r⟩
    · exact ⟨sm.trans s3, ys, by omega, s3 _ _ hD, r⟩
  · obtain ⟨sm, ys, _, hD, hR⟩ := p
    exact hd H ys sm hD hR
/-- item by item -/
theorem lc_fm {α β : Type} (w : Walk J n G Y) (ls : List α) (f : α → Option β) (rel : Hp → V → β → Prop) (mono : ∀ H H' v b, SameX D H H' → rel H v b → rel H' v b) (hn : ls.length = n) (nD : H1 D = none)
    (hG : ∀ H', Same H1 H' → G H') (hl : n < sizeLine)
    (hs : ∀ i x H Hx ys l, ls[i]? = some l → Same H1 H → H D = some (.lst ys) → Y i H x Hx → ∀ (Qt : VK) (Qf : Hp → Prop), (∀ y H4 b, f l = some b → Same H H4 → rel H4 y b → Qt y H4) →
      (f l = none → ∀ H3, Same H H3 → Qf H3) → g x (wipe σ vs) Hx fun σ2 H2 => wipe σ2 vs = wipe σ vs ∧ tt σ2 H2 fun b H3 => if b = true then te σ2 H3 Qt else Qf H3)
    (hd : ∀ H ys, Same H1 H → H D = some (.lst ys) → A2 (rel H) ys (ls.filterMap f) → Qd H) : LcW J g tt te vs σ H1 D Qd := by
  refine lc_inv w (fun i H ys => A2 (rel H) ys ((ls.take i).filterMap f)) nD hG hl .nil (fun i x H Hx ys hi sm hD hR y Qt Qf qt qf => ?_) (fun H ys sm hD hR => ?_)
  · obtain ⟨l, hl⟩ : ∃ l, ls[i]? = some l := ⟨ls[i]'(by omega), by simp [show i < ls.length by omega]⟩
    refine hs i x H Hx ys l hl sm hD y Qt Qf (fun y H4 b hb s4 r => ?_) (fun hb H3 s3 => ?_)
    · refine qt y H4 s4 ?_
      rw [take_snoc hl, List.filterMap_append]
      show A2 _ _ (_ ++ List.filterMap f [l])
      rw [show List.filterMap f [l] = [b] by simp [hb]]
      exact A2.snoc (mono _ _ _ _ SameX.put r) (hR.mono fun _ _ z => mono _ _ _ _ ((sx s4).trans SameX.put) z)
    · refine qf H3 s3 ?_
      rw [take_snoc hl, List.filterMap_append]
      show A2 _ _ (_ ++ List.filterMap f [l])
      rw [show List.filterMap f [l] = [] by simp [hb], List.append_nil]
      exact hR.mono fun _ _ z => mono _ _ _ _ (sx s3) z
  · rw [List.take_of_length_le (by omega)] at hR
    exact hd H ys sm hD hR
/-- new things, one a turn, each with something known of it -/
theorem lc_new {β : Type} (w : Walk J n G Y) (rel : Hp → Addr → β → Prop) (mono : ∀ H H' v b, SameX D H H' → rel H v b → rel H' v b) (ok : Nat → β → Prop) (nD : H1 D = none) (hG : ∀ H', Same H1 H' → G H') (hl : n < sizeLine)
    (hs : ∀ i x H Hx, i < n → Same H1 H → H D ≠ none → Y i H x Hx → ∀ Qt : VK, (∀ y b H4, Same H H4 → rel H4 y b → ok i b → Qt (.ref y) H4) → g x (wipe σ vs) Hx fun σ2 H2 => wipe σ2 vs = wipe σ vs ∧ tt σ2 H2 fun b H3 => b = true ∧ te σ2 H3 Qt)
    (hd : ∀ H as bs, Same H1 H → H D = some (.lst (as.map V.ref)) → A2 (rel H) as bs → bs.length = n → (∀ i b, bs[i]? = some b → ok i b) → Qd H)
    (gm : ∀ {x σ' H' Q1 Q2}, (∀ a b, Q1 a b → Q2 a b) → g x σ' H' Q1 → g x σ' H' Q2) (tm : ∀ {σ' H' Q1 Q2}, (∀ a b, Q1 a b → Q2 a b) → tt σ' H' Q1 → tt σ' H' Q2) : LcW J g tt te vs σ H1 D Qd := by
  refine lc_inv w (fun i H ys => ∃ (as : List Addr) (bs : List β), ys = as.map V.ref ∧ A2 (rel H) as bs ∧ bs.length = i ∧ ∀ j b, bs[j]? = some b → ok j b) nD hG hl ⟨[], [], rfl, .nil, rfl, fun j b z => by simp at z⟩ (fun i x H Hx ys hi sm hD hR y Qt Qf qt qf => ?_) (fun H ys sm hD hR => ?_)
  · obtain ⟨as, bs, rfl, ha, hb, hk⟩ := hR
    refine gm (fun σ2 H2 z => ⟨z.1, tm (fun c H3 z2 => ?_) z.2⟩) (hs i x H Hx hi sm (by rw [hD]; exact fun z => nomatch z) y Qt fun y b H4 s4 r o => ?_)
    · rw [if_pos z2.1]
      exact z2.2
    · refine qt _ _ s4 ⟨as ++ [y], bs ++ [b], by rw [List.map_append]; rfl, A2.snoc (mono _ _ _ _ SameX.put r) (ha.mono fun _ _ z => mono _ _ _ _ ((sx s4).trans SameX.put) z), by rw [List.length_append, hb]; rfl, fun j c z => ?_⟩
      rcases Nat.lt_or_ge j bs.length with lt | ge
      · rw [List.getElem?_append_left lt] at z
        exact hk j c z
      · rw [List.getElem?_append_right ge] at z
        have e : j - bs.length = 0 := by
          rcases Nat.eq_zero_or_pos (j - bs.length) with e | e
          · exact e
          · rw [List.getElem?_eq_none (by show 1 ≤ _; omega)] at z
            cases z
        rw [e] at z
        cases z
        have : j = i := by omega
        rw [this]
        exact o
  · obtain ⟨as, bs, rfl, ha, hb, hk⟩ := hR
    exact hd H as bs sm hD ha hb hk
end
def rLenS (K : PySem.W.Frag) : List V → Hp → VK → Prop := fun xs H Q => ∃ p ys, xs = [.ref p] ∧ (SqL K H p ys ∨ SqT K H p ys) ∧ Q (.int (ys.length : Nat)) H
theorem call_lenC {X : Cx} : CallR X (.builtin "len") (rLenS X.K) := call_len_seq
def rListC (K : PySem.W.Frag) : List V → Hp → VK → Prop := fun xs H Q => ∃ p ys, xs = [.ref p] ∧ (SqL K H p ys ∨ SqT K H p ys) ∧ ∀ l, H l = none → Q (.ref l) (upd H l (.lst ys))
theorem call_listC {X : Cx} : CallR X (.type "list") (rListC X.K) := call_list_of
/-! ### grids -/
abbrev Rw := Bool × List (List Int)
def kS (b : Bool) : Str := if b then "exact" else "sized"
def RowL (H : Hp) (b : Addr) (els : List (List Int)) : Prop := ∃ as : List Addr, H b = some (.lst (as.map V.ref)) ∧ A2 (IL H) as els
def RwV (K : PySem.W.Frag) (H : Hp) (v : V) (r : Rw) : Prop := ∃ t b, v = .ref t ∧ SqT K H t [.str (kS r.1), .ref b] ∧ RowL H b r.2
def GR (K : PySem.W.Frag) (H : Hp) (g : Addr) (rs : List Rw) : Prop := ∃ xs, H g = some (.lst xs) ∧ A2 (RwV K H) xs rs
/-- all stands but the tables of code -/
def Lk (H H' : Hp) : Prop := ∀ b o, H b = some o → (∀ q, o ≠ .tbl q) → H' b = some o
theorem Lk.refl {H : Hp} : Lk H H := fun _ _ h _ => h
theorem Lk.trans {H H1 H2 : Hp} (a : Lk H H1) (b : Lk H1 H2) : Lk H H2 := fun c o h n => b c o (a c o h n) n
theorem lk {H H' : Hp} (s : Same H H') : Lk H H' := fun b o h _ => s b o h
theorem lk_tab {H H' : Hp} {P : Addr} (h : GxR.TabG H P) (s : GxR.Tabbed P H H') : Lk H H' := fun b o e n => by
  by_cases z : b = P
  · obtain ⟨ps, hP, _⟩ := h
    rw [z, hP] at e
    cases e
    exact absurd rfl (n ps)
  · rw [s.2 b z]
    exact e
theorem tabG_same {H H' : Hp} {P : Addr} (h : GxR.TabG H P) (s : Same H H') : GxR.TabG H' P := let ⟨ps, e, t⟩ := h; ⟨ps, s _ _ e, t⟩
section
variable {K : PySem.W.Frag} {H H' : Hp}
theorem Lk.seqT (s : Lk H H') {a : Addr} {xs : List V} (h : SqT K H a xs) : SqT K H' a xs := by
  rcases h with (h | ⟨o, h⟩) | h
  · exact .inl (.inl (s _ _ h fun _ z => nomatch z))
  · exact .inl (.inr ⟨o, s _ _ h fun _ z => nomatch z⟩)
  · exact .inr h
theorem Lk.seqL (s : Lk H H') {a : Addr} {xs : List V} (h : SqL K H a xs) : SqL K H' a xs := by
  rcases h with (h | ⟨o, h⟩) | h
  · exact .inl (.inl (s _ _ h fun _ z => nomatch z))
  · exact .inl (.inr ⟨o, s _ _ h fun _ z => nomatch z⟩)
  · exact .inr h
theorem Lk.lst (s : Lk H H') {a : Addr} {xs : List V} (h : H a = some (.lst xs)) : H' a = some (.lst xs) := s _ _ h fun _ z => nomatch z
theorem IL.lk (s : Lk H H') {a : Addr} {ns : List Int} (h : IL H a ns) : IL H' a ns := s.lst h
theorem RowL.lk (s : Lk H H') {b : Addr} {els : List (List Int)} (h : RowL H b els) : RowL H' b els := let ⟨as, e, r⟩ := h; ⟨as, s.lst e, r.mono fun _ _ z => z.lk s⟩
theorem RwV.lk (s : Lk H H') {v : V} {r : Rw} (h : RwV K H v r) : RwV K H' v r := let ⟨t, b, e, z, y⟩ := h; ⟨t, b, e, s.seqT z, y.lk s⟩
theorem GR.lk (s : Lk H H') {g : Addr} {rs : List Rw} (h : GR K H g rs) : GR K H' g rs := let ⟨xs, e, r⟩ := h; ⟨xs, s.lst e, r.mono fun _ _ z => z.lk s⟩
end
/-- an element of a grid that is drawn -/
def VE (ns : List Int) : Prop := ns.length ≤ 4 ∧ ∀ n ∈ ns, n.natAbs ≤ 10 ^ 30
def VR (many : Nat) (els : List (List Int)) : Prop := els.length = many ∧ ∀ e ∈ els, VE e
def VG (many : Nat) (rs : List Rw) : Prop := rs.length = many ∧ ∀ r ∈ rs, VR many r.2
/-- the power of an element -/
def pw (ex : Bool) (e : List Int) : Option Int := if e = [] then none else some (if ex = true then (e.length : Int) - 1 else cf e (e.length - 1))
def vI : Option Int → V
  | none => .non
  | some k => .int k
def TGs (Ps : List Addr) (H : Hp) : Prop := ∀ P ∈ Ps, GxR.TabG H P
section
variable {K : PySem.W.Frag} {H H' H2 : Hp} {Ps : List Addr}
theorem TGs.same (s : Same H H') (h : TGs Ps H) : TGs Ps H' := fun P hP => let ⟨ps, e, t⟩ := h P hP; ⟨ps, s _ _ e, t⟩
theorem TGs.tab {P : Addr} (h : TGs Ps H) (t : GxR.Tabbed P H H') : TGs Ps H' := fun R hR => by
  by_cases e : R = P
  · rw [e]; exact t.1
  · obtain ⟨ps, hp, ht⟩ := h R hR
    exact ⟨ps, by rw [t.2 R e]; exact hp, ht⟩
theorem take_all {α : Type} {p : α → Prop} {xs : List α} {i : Nat} {x : α} (h : xs[i]? = some x) (a : ∀ y ∈ xs.take i, p y) (b : p x) : ∀ y ∈ xs.take (i + 1), p y := fun y hy => by
  rw [take_snoc h] at hy
  rcases List.mem_append.mp hy with hy | hy
  · exact a y hy
  · rw [List.mem_singleton.mp hy]; exact b
end
theorem log_lt {n m : Nat} (h : n < 2 ^ m) (hm : 0 < m) : n.log2 < m := by
  rcases Nat.eq_zero_or_pos n with rfl | z
  · rw [Nat.log2_zero]; exact hm
  · exact (Nat.log2_lt (by omega)).mpr h
theorem Lk.tup {H H1 : Hp} (s : Lk H H1) {a : Addr} {xs : List V} (h : H a = some (.tup xs)) : H1 a = some (.tup xs) := s _ _ h fun _ z => nomatch z

end K70
-- D70
namespace K70
open PySem PySem.Spec PyProof.Rows L2
section
variable {P : Program} {w : World} {K : PySem.W.Frag} {mg : Str → Option Value} {base : Heap}
def sp_law_draws (K : PySem.W.Frag) : Sp := fun vs H Q _ => ∃ (a : Addr) (ns : List Int), vs = [.ref a] ∧ SqL K H a (ns.map V.int) ∧ ns.length ≤ 63 ∧ ∀ H' p ds, Same H H' → H p = none → IL H' p ds → ds.length ≤ 4000 → Q (.ref p) H'
theorem ok_law_draws (T : Txt K mg) : FnOk P w K mg base CX0 1 T.law_draws.a T.law_draws.fd ["script"] (sp_law_draws K) := by
  refine T.law_draws.F.ok sc_law_draws (fun vs H Q E h => ?_) (fun cdv A outer s H vs Q E hr h => ?_)
  · obtain ⟨a, ns, rfl, _⟩ := h
    rfl
  · obtain ⟨a, ns, rfl, ha, hl, q⟩ := h
    refine ⟨_, (pss_cons (ps_set (i := 1) sc_law_draws.nd rfl (.inl rfl) (pe_lst pa_nil))
      (pss_cons (ps_for PassesOwn.never rfl (pi_range1 (by rfl) T.m_range (pa_cons (pe_callB (call_min2 rfl) (by rfl) T.m_min (by decide +kernel) (pa_cons pe_int (pa_cons (pe_callB call_len_seq (by rfl) T.m_len (by decide +kernel) (pa_cons (pv 0) pa_nil)) pa_nil))) pa_nil)) (pg_name (i := 2) sc_law_draws.nd rfl (.inl rfl))
        (pss_cons (ps_set (i := 3) sc_law_draws.nd rfl (.inl rfl) (pe_callB call_abs (by rfl) T.m_abs (by decide +kernel) (pa_cons (pe_ix ix_list (pv 0) (pv 2) (fun _ _ => rfl)) pa_nil)))
        (pss_one (ps_if (pt_cmpR op_ge (pv 3) (pe_op op_pow pe_int pe_int) (nomark _))
          (pss_one (ps_for PassesOwn.never rfl (pi_range1 (by rfl) T.m_range (pa_cons pe_int pa_nil)) (pg_name (i := 4) sc_law_draws.nd rfl (.inl rfl))
            (pss_one (ps_if (pt_cmpR op_gt (pv 3) pe_int (nomark _))
              (pss_cons (ps_expr (pe_bm PySem.F.plainAttrs_list PySem.F.slot_list_append PySem.F.type_list_append mt_append (pv 1) (pa_cons (pe_op op_mod (pe_callTy call_int1 (by rfl) T.m_int (by decide +kernel) (pa_cons (pv 3) pa_nil)) pe_int) pa_nil)))
              (pss_one (ps_set (i := 3) sc_law_draws.nd rfl (.inl rfl) (pe_op op_fdiv (pv 3) pe_int))))
              pss_nil))))
          (pss_cons (ps_set (i := 5) sc_law_draws.nd rfl (.inl rfl) (pe_op op_mod (pe_callTy call_int1 (by rfl) T.m_int (by decide +kernel) (pa_cons (pe_op op_add (pe_op op_mul (pv 3) pe_int) (pe_op op_mul (pe_op op_add (pv 2) pe_int) pe_int)) pa_nil)) pe_int))
          (pss_cons (ps_set (i := 5) sc_law_draws.nd rfl (.inl rfl) (pe_op op_mod (pe_callTy call_int1 (by rfl) T.m_int (by decide +kernel) (pa_cons (pe_op op_add (pe_op op_add (pe_op op_mul (pv 5) pe_int) (pe_op op_mul pe_int (pv 2))) pe_int) pa_nil)) pe_int))
          (pss_cons (ps_expr (pe_bm PySem.F.plainAttrs_list PySem.F.slot_list_append PySem.F.type_list_append mt_append (pv 1) (pa_cons (pe_op op_mod (pe_callTy call_int1 (by rfl) T.m_int (by decide +kernel) (pa_cons (pv 5) pa_nil)) pe_int) pa_nil)))
          (pss_one (ps_expr (pe_bm PySem.F.plainAttrs_list PySem.F.slot_list_append PySem.F.type_list_append mt_append (pv 1) (pa_cons (pe_op op_mod (pe_callTy call_int1 (by rfl) T.m_int (by decide +kernel) (pa_cons (pe_op op_fdiv (pv 5) pe_int) pa_nil)) pe_int) pa_nil)))))))))))
      (pss_one (ps_ret (pv 1))))), ?_⟩
    refine ⟨Nat.zero_le _, fun p hp => ?_⟩
    have s0 := same_upd (o := .lst []) hp
    obtain ⟨L, hL, eL⟩ : ∃ L : Nat, L ≤ ns.length ∧ L ≤ 63 ∧ (if ((ns.map V.int).length : Int) < 63 then ((ns.map V.int).length : Int) else 63) = (L : Int) := by
      refine ⟨min ns.length 63, Nat.min_le_left _ _, Nat.min_le_right _ _, ?_⟩
      rw [List.length_map]
      split <;> omega
    refine ⟨.ref a, rfl, a, _, rfl, .inl (s0.seq ha), 63, _, rfl, (L : Int), congrArg (fun z => [V.int z]) eL.2, by omega, by omega, ?_⟩
    refine for_range (n := (L : Int).toNat) (lo := 0) (fun i σ H' => Same H H' ∧ ∃ ds v2 v3 v4 v5, σ = [some (.ref a), some (.ref p), v2, v3, v4, v5] ∧ IL H' p ds ∧ ds.length ≤ 60 * i) ⟨s0, [], none, none, none, none, rfl, upd_same, Nat.zero_le _⟩ (fun i σ H' hi hP => ?_) (fun σ H' hP => ?_)
    · obtain ⟨sm, ds, v2, v3, v4, v5, rfl, hd, hn⟩ := hP
      have hi' : i < ns.length := by omega
      refine ⟨.ref a, rfl, _, rfl, a, _, _, _, rfl, rfl, sm.seq ha, at_map' (m := i) (by omega) hi', _, rfl, ?_⟩
      obtain ⟨r, hr1, er⟩ : ∃ r : Int, 0 ≤ r ∧ (if cf ns i < 0 then -cf ns i else cf ns i) = r := ⟨_, by split <;> omega, rfl⟩
      rw [er]
      refine ⟨_, rfl, _, _, rfl, rfl, ⟨by decide, by decide, by decide⟩, _, _, rfl, rfl, _, rfl, ?_⟩
      refine ite2 (fun _ => ?_) (fun hlt => ?_)
      · refine ⟨60, rfl, by decide, by decide, ?_⟩
        refine for_range (n := 60) (lo := 0) (fun j σ H' => Same H H' ∧ ∃ ds v2 v4 v5 r, σ = [some (.ref a), some (.ref p), v2, some (.int r), v4, v5] ∧ 0 ≤ r ∧ IL H' p ds ∧ ds.length ≤ 60 * i + j) ⟨sm, ds, _, _, _, r, rfl, hr1, hd, hn⟩ (fun j σ H' hj hP => ?_) (fun σ H' hP => ?_)
        · obtain ⟨sm, ds, v2, v4, v5, r, rfl, hr1, hd, hn⟩ := hP
          refine ⟨_, rfl, _, _, rfl, rfl, _, rfl, ?_⟩
          refine ite2 (fun _ => ?_) (fun _ => ⟨sm, ds, _, _, _, r, rfl, hr1, hd, by omega⟩)
          refine ⟨.ref p, rfl, .inl ⟨rfl, _, hd.sq⟩, _, rfl, .inl ⟨_, rfl, _, _, rfl, rfl, (by show (0 : Int) < _; decide), p, _, _, rfl, rfl, hd, by rw [List.length_map]; exact small' (by omega), ?_⟩⟩
          rw [app_ints]
          refine ⟨_, rfl, _, _, rfl, rfl, ⟨by decide, by decide⟩, ?_⟩
          exact ⟨same_over sm hp, _, _, _, _, _, rfl, by omega, il_upd, by rw [List.length_append]; show _ + 1 ≤ _; omega⟩
        · obtain ⟨sm, ds, v2, v4, v5, r, rfl, hr1, hd, hn⟩ := hP
          exact ⟨sm, ds, _, _, _, _, rfl, hd, by omega⟩
      · have hr2 : r < 10 ^ 18 := by
          have e : ((10 : Int) ^ (18 : Int).toNat) = 10 ^ 18 := rfl
          rw [e] at hlt
          have := of_decide_eq_false (Bool.eq_false_iff.mpr hlt)
          omega
        refine ⟨_, rfl, _, _, rfl, rfl, .inl ⟨by omega, by omega⟩, _, rfl, _, _, rfl, rfl, _, _, rfl, rfl, .inr ⟨by decide, by decide⟩, _, _, rfl, rfl, .inl ⟨_, rfl, _, _, rfl, rfl, (by show (0 : Int) < _; decide), ?_⟩⟩
        refine ⟨_, rfl, _, _, rfl, rfl, .inr ⟨by decide, by decide⟩, _, rfl, _, _, rfl, rfl, .inl ⟨by decide, by decide⟩, _, _, rfl, rfl, _, _, rfl, rfl, .inl ⟨_, rfl, _, _, rfl, rfl, (by show (0 : Int) < _; decide), ?_⟩⟩
        refine ⟨.ref p, rfl, .inl ⟨rfl, _, hd.sq⟩, _, rfl, .inl ⟨_, rfl, _, _, rfl, rfl, (by show (0 : Int) < _; decide), p, _, _, rfl, rfl, hd, by rw [List.length_map]; exact small' (by omega), ?_⟩⟩
        rw [app_ints]
        refine ⟨.ref p, rfl, .inl ⟨rfl, _, il_upd.sq⟩, _, rfl, _, _, rfl, rfl, ⟨by decide, by decide⟩, .inl ⟨_, rfl, _, _, rfl, rfl, (by show (0 : Int) < _; decide), p, _, _, rfl, rfl, il_upd, by rw [List.length_map, List.length_append]; exact small' (by show _ + 1 < _; omega), ?_⟩⟩
        rw [app_ints]
        exact ⟨same_over (same_over sm hp) hp, _, _, _, _, _, rfl, il_upd, by rw [List.length_append, List.length_append]; show _ + 1 + 1 ≤ _; omega⟩
    · obtain ⟨sm, ds, v2, v3, v4, v5, rfl, hd, hn⟩ := hP
      exact ⟨_, rfl, q H' p ds sm hp hd (by omega)⟩
def sp_law_mix : Sp := fun vs H Q _ => ∃ (a : Addr) (ds : List Int) (k many : Int), vs = [.ref a, .int k, .int many] ∧ IL H a ds ∧ 0 ≤ k ∧ 0 < many ∧ ∀ r, 0 ≤ r → r < many → Q (.int r) H
theorem ok_law_mix (T : Txt K mg) : FnOk P w K mg base CX0 1 T.law_mix.a T.law_mix.fd ["draws", "k", "many"] sp_law_mix := by
  refine T.law_mix.F.ok sc_law_mix (fun vs H Q E h => ?_) (fun cdv A outer s H vs Q E hr h => ?_)
  · obtain ⟨a, ds, k, m, rfl, _⟩ := h
    rfl
  · obtain ⟨a, ds, k, m, rfl, ha, hk, hm, q⟩ := h
    have qq : ∀ z : Int, Q (.int (z % m)) H := fun z => q _ (Int.emod_nonneg _ (by omega)) (Int.emod_lt_of_pos _ hm)
    refine ⟨_, (pss_cons (ps_set (i := 3) sc_law_mix.nd rfl (.inl rfl) pe_int)
      (pss_cons (ps_if (pt_cmpR op_gt (pe_callB call_len_seq (by rfl) T.m_len (by decide +kernel) (pa_cons (pv 0) pa_nil)) pe_int (nomark _))
        (pss_one (ps_set (i := 3) sc_law_mix.nd rfl (.inl rfl) (pe_ix ix_list (pv 0) (pe_op op_mod (pe_callTy call_int1 (by rfl) T.m_int (by decide +kernel) (pa_cons (pv 1) pa_nil)) (pe_callB call_len_seq (by rfl) T.m_len (by decide +kernel) (pa_cons (pv 0) pa_nil))) (fun _ _ => rfl))))
        pss_nil)
      (pss_cons (ps_if (pt_cmpR op_lt (pv 1) (pe_callB call_len_seq (by rfl) T.m_len (by decide +kernel) (pa_cons (pv 0) pa_nil)) (nomark _))
        (pss_one (ps_ret (pe_op op_mod (pe_callTy call_int1 (by rfl) T.m_int (by decide +kernel) (pa_cons (pv 3) pa_nil)) (pv 2))))
        pss_nil)
      (pss_one (ps_ret (pe_op op_mod (pe_callTy call_int1 (by rfl) T.m_int (by decide +kernel) (pa_cons (pe_op op_fdiv (pe_callTy call_int1 (by rfl) T.m_int (by decide +kernel) (pa_cons (pe_op op_add (pe_op op_mul (pv 3) pe_int) (pe_op op_mul (pv 1) pe_int)) pa_nil)) pe_int) pa_nil)) (pv 2))))))), ?_⟩
    refine ⟨.ref a, rfl, a, _, rfl, .inl ha.sq, _, _, rfl, rfl, _, rfl, ?_⟩
    rw [List.length_map]
    refine ite2 (fun h => ?_) (fun h => ?_)
    · have hp : 0 < ds.length := by have := of_decide_eq_true h; omega
      obtain ⟨n, hn, en⟩ : ∃ n : Nat, n < ds.length ∧ k % (ds.length : Int) = (n : Int) := ⟨(k % (ds.length : Int)).toNat, by have := Int.emod_nonneg k (show (ds.length : Int) ≠ 0 by omega); have := Int.emod_lt_of_pos k (show (0 : Int) < ds.length by omega); omega, by have := Int.emod_nonneg k (show (ds.length : Int) ≠ 0 by omega); omega⟩
      refine ⟨.ref a, rfl, _, rfl, .inl ⟨_, rfl, .ref a, rfl, a, _, rfl, .inl ha.sq, _, _, rfl, rfl, (by show (0 : Int) < _; rw [List.length_map]; omega), a, _, _, _, rfl, rfl, ha.sq, at_map' (m := n) (by rw [List.length_map]; exact en) hn, ?_⟩⟩
      refine ⟨_, rfl, .ref a, rfl, a, _, rfl, .inl ha.sq, _, _, rfl, rfl, _, rfl, ?_⟩
      refine ite2 (fun _ => ?_) (fun _ => ?_)
      · exact ⟨_, rfl, .inl ⟨_, rfl, _, rfl, _, _, rfl, rfl, hm, qq _⟩⟩
      · exact ⟨_, rfl, _, _, rfl, rfl, .inr ⟨by decide, by decide⟩, _, rfl, _, _, rfl, rfl, .inr ⟨by decide, by decide⟩, _, _, rfl, rfl, .inl ⟨_, rfl, _, _, rfl, rfl, ⟨by decide, by decide⟩, .inl ⟨_, rfl, _, rfl, _, _, rfl, rfl, hm, qq _⟩⟩⟩
    · refine ⟨_, rfl, .ref a, rfl, a, _, rfl, .inl ha.sq, _, _, rfl, rfl, _, rfl, ?_⟩
      refine ite2 (fun _ => ?_) (fun _ => ?_)
      · exact ⟨_, rfl, .inl ⟨_, rfl, _, rfl, _, _, rfl, rfl, hm, qq _⟩⟩
      · exact ⟨_, rfl, _, _, rfl, rfl, .inr ⟨by decide, by decide⟩, _, rfl, _, _, rfl, rfl, .inr ⟨by decide, by decide⟩, _, _, rfl, rfl, .inl ⟨_, rfl, _, _, rfl, rfl, ⟨by decide, by decide⟩, .inl ⟨_, rfl, _, rfl, _, _, rfl, rfl, hm, qq _⟩⟩⟩
end
end K70
-- E70
namespace K70
open PySem PySem.Spec PyProof.Rows L2
section
variable {P : Program} {w : World} {K : PySem.W.Frag} {mg : Str → Option Value} {base : Heap}
theorem cut_to {ns : List Int} {m : Nat} (h : m ≤ ns.length) : cutV (ns.map V.int) none (some (m : Int)) = (ns.take m).map V.int := by
  unfold cutV
  rw [HT.sIx_none, HT.sIx_nat, List.drop_zero, List.length_map, Nat.min_eq_left h, Nat.sub_zero, List.map_take]
theorem cut_from {ns : List Int} : cutV (ns.map V.int) (some ((1 : Nat) : Int)) none = (ns.drop 1).map V.int := by
  unfold cutV
  rw [HT.sIx_none, HT.sIx_nat, List.length_map, List.map_drop, List.take_of_length_le]
  · cases ns with
    | nil => rfl
    | cons x r => rw [Nat.min_eq_left (by show 1 ≤ r.length + 1; omega)]
  · rw [List.length_drop, List.length_map]; exact Nat.le_refl _
/-- the last number is not 0 -/
def NZ (ns : List Int) : Prop := ∀ x, ns[ns.length - 1]? = some x → x ≠ 0
theorem nz_nil : NZ [] := fun x h => by cases h
theorem nz_take {ns : List Int} {m : Nat} (m0 : 0 < m) (hm : m ≤ ns.length) (h : cf ns (m - 1) ≠ 0) : NZ (ns.take m) := fun x hx => by
  rw [List.length_take, Nat.min_eq_left hm, List.getElem?_take, if_pos (by omega), at_map (by omega)] at hx
  rw [← Option.some.inj hx]; exact h
theorem nz_snoc {ns : List Int} {r : Int} (h : r ≠ 0) : NZ (ns ++ [r]) := fun x hx => by
  rw [List.length_append, show ns.length + [r].length - 1 = ns.length from rfl, List.getElem?_append_right (Nat.le_refl _), Nat.sub_self] at hx
  rw [← Option.some.inj hx]; exact h
def sp_law_trimmed (K : PySem.W.Frag) : Sp := fun vs H Q _ => ∃ (a : Addr) (ns : List Int), vs = [.ref a] ∧ SqL K H a (ns.map V.int) ∧ ns.length ≤ 40 ∧ ∀ H' p m, Same H H' → H p = none → IL H' p (ns.take m) → NZ (ns.take m) → Q (.ref p) H'
theorem ok_law_trimmed (T : Txt K mg) : FnOk P w K mg base CX0 1 T.law_trimmed.a T.law_trimmed.fd ["numbers"] (sp_law_trimmed K) := by
  refine T.law_trimmed.F.ok sc_law_trimmed (fun vs H Q E h => ?_) (fun cdv A outer s H vs Q E hr h => ?_)
  · obtain ⟨a, ns, rfl, _⟩ := h
    rfl
  · obtain ⟨a, ns, rfl, ha, hl, q⟩ := h
    refine ⟨_, (pss_cons (ps_set (i := 1) sc_law_trimmed.nd rfl (.inl rfl) (pe_callB call_len_seq (by rfl) T.m_len (by decide +kernel) (pa_cons (pv 0) pa_nil)))
      (pss_cons (ps_for PassesOwn.never rfl (pi_range1 (by rfl) T.m_range (pa_cons (pe_callB call_len_seq (by rfl) T.m_len (by decide +kernel) (pa_cons (pv 0) pa_nil)) pa_nil)) (pg_name (i := 2) sc_law_trimmed.nd rfl (.inl rfl))
        (pss_one (ps_if (PW.pt (pw_and (pt_cmpR op_gt (pv 1) pe_int (nomark _)) (pw_and1 (pt_cmpR op_eq (pe_ix ix_list (pv 0) (pe_op op_sub (pv 1) pe_int) (fun _ _ => rfl)) pe_int (nomark _)))))
          (pss_one (ps_set (i := 1) sc_law_trimmed.nd rfl (.inl rfl) (pe_op op_sub (pv 1) pe_int)))
          pss_nil)))
      (pss_one (ps_ret (pe_slice sl_list (pv 0) po_none (po_some (pv 1))))))), ?_⟩
    refine ⟨.ref a, rfl, a, _, rfl, .inl ha, ?_⟩
    refine ⟨.ref a, rfl, a, _, rfl, .inl ha, (ns.length : Nat), by rw [List.length_map], by omega, by omega, ?_⟩
    rw [Int.toNat_natCast, List.length_map]
    refine for_range (n := ns.length) (lo := 0) (fun i σ H' => H' = H ∧ ∃ (m : Nat) (v2 : Option V), σ = [some (.ref a), some (.int (m : Int)), v2] ∧ m ≤ ns.length ∧ (m + i = ns.length ∨ NZ (ns.take m))) ⟨rfl, ns.length, none, rfl, Nat.le_refl _, .inl rfl⟩ (fun i σ H' hi hP => ?_) (fun σ H' hP => ?_)
    · obtain ⟨rfl, m, v2, rfl, hm, hz⟩ := hP
      refine ⟨_, rfl, _, _, rfl, rfl, _, rfl, ?_⟩
      refine ite2 (fun h => ?_) (fun h => iteF ⟨rfl, m, _, rfl, hm, .inr ?_⟩)
      rotate_left
      · obtain rfl : m = 0 := by have : ¬ (0 : Int) < m := fun z => h (decide_eq_true z); omega
        exact nz_nil
      have m0 : 0 < m := by have := of_decide_eq_true h; omega
      refine ⟨.ref a, rfl, _, rfl, _, _, rfl, rfl, a, _, _, _, rfl, rfl, ha, at_map' (m := m - 1) (by omega) (by omega), rfl, _, rfl, ?_⟩
      refine ite2 (fun h0 => ?_) (fun h0 => ⟨rfl, m, _, rfl, hm, .inr (nz_take m0 hm fun z => h0 (by rw [z]; exact decide_eq_true rfl))⟩)
      have h1 : cf ns (m - 1) = 0 := by exact V.int.inj (of_decide_eq_true h0)
      refine ⟨_, rfl, _, _, rfl, rfl, rfl, m - 1, some (.int (0 + (i : Int))), ?_, by omega, ?_⟩
      rotate_left
      · rcases hz with z | z
        · exact .inl (by omega)
        · exfalso
          refine z (cf ns (m - 1)) ?_ h1
          rw [List.length_take, Nat.min_eq_left hm, List.getElem?_take, if_pos (by omega), at_map (by omega)]
      rw [show ((m - 1 : Nat) : Int) = (m : Int) - 1 by omega]; rfl
    · obtain ⟨rfl, m, v2, rfl, hm, hz⟩ := hP
      have hz : NZ (ns.take m) := by
        rcases hz with z | z
        · obtain rfl : m = 0 := by omega
          exact nz_nil
        · exact z
      refine ⟨.ref a, rfl, _, rfl, _, rfl, a, _, rfl, ha, fun p hp => ?_⟩
      exact q _ p m (same_upd hp) hp (by rw [cut_to hm]; exact upd_same) hz
theorem neg_le {i : Int} {b : Nat} (h : i.natAbs ≤ b) : (-i).natAbs ≤ b := by rw [Int.natAbs_neg]; exact h
def sp_law_number : Sp := fun vs H Q _ => ∃ (a : Addr) (ds : List Int) (k : Int), vs = [.ref a, .int k] ∧ IL H a ds ∧ 0 ≤ k ∧ ∀ H' r, Same H H' → r.natAbs ≤ 10 ^ 30 → r ≠ 0 → Q (.int r) H'
theorem ok_law_number (T : Txt K mg) : FnOk P w K mg base CX0 2 T.law_number.a T.law_number.fd ["draws", "k"] sp_law_number := by
  refine T.law_number.F.ok sc_law_number (fun vs H Q E h => ?_) (fun cdv A outer s H vs Q E hr h => ?_)
  · obtain ⟨a, ds, k, rfl, _⟩ := h
    rfl
  · obtain ⟨a, ds, k, rfl, ha, hk, q⟩ := h
    refine ⟨_, (pss_one (ps_ret (pe_ix ix_list (pe_lst (pa_cons pe_int (pa_cons (pe_un un_neg pe_int) (pa_cons pe_int (pa_cons (pe_op op_add pe_int (pe_call (ok_law_mix T) (hr.mono (by decide)) (by rfl) T.law_mix.g T.law_mix.F.kp T.law_mix.b .nil pass0 (pa_cons (pv 0) (pa_cons (pe_op op_add (pv 1) pe_int) (pa_cons pe_int pa_nil))))) (pa_cons (pe_op op_add pe_int (pe_call (ok_law_mix T) (hr.mono (by decide)) (by rfl) T.law_mix.g T.law_mix.F.kp T.law_mix.b .nil pass0 (pa_cons (pv 0) (pa_cons (pe_op op_add (pv 1) pe_int) (pa_cons pe_int pa_nil))))) (pa_cons (pe_un un_neg pe_int) pa_nil))))))) (pe_call (ok_law_mix T) (hr.mono (by decide)) (by rfl) T.law_mix.g T.law_mix.F.kp T.law_mix.b .nil pass0 (pa_cons (pv 0) (pa_cons (pv 1) (pa_cons pe_int pa_nil)))) (fun _ _ => rfl)))), ?_⟩
    refine ⟨_, rfl, .ref a, rfl, _, rfl, _, _, rfl, rfl, a, ds, _, _, rfl, ha, by omega, by decide, fun r2 p2 u2 => ?_⟩
    refine ⟨_, _, rfl, rfl, ?_⟩
    refine ⟨.ref a, rfl, _, rfl, _, _, rfl, rfl, a, ds, _, _, rfl, ha, by omega, by decide, fun r3 p3 u3 => ?_⟩
    refine ⟨_, _, rfl, rfl, ?_⟩
    refine ⟨_, rfl, by show 6 ≤ sizeLine; decide, fun l nl => ?_⟩
    have s1 := same_upd nl (o := .lst [.int 1, .int (-1), .int 2, .int (1 + r2), .int (1 + r3), .int (-1000000)])
    refine ⟨.ref a, rfl, _, rfl, a, ds, _, _, rfl, ha.same s1, hk, by decide, fun r4 p4 u4 => ?_⟩
    have hall : ∀ x ∈ [1, -1, 2, 1 + r2, 1 + r3, -1000000], x.natAbs ≤ 10 ^ 30 ∧ x ≠ 0 := fun x hx => by
      simp only [List.mem_cons, List.not_mem_nil, or_false] at hx
      rcases hx with rfl | rfl | rfl | rfl | rfl | rfl <;> omega
    have hlt : r4.toNat < [1, -1, 2, 1 + r2, 1 + r3, -1000000].length := by show _ < 6; omega
    refine ⟨l, _, _, _, rfl, rfl, .of upd_same, at_map' (ns := [1, -1, 2, 1 + r2, 1 + r3, -1000000]) (m := r4.toNat) (by omega) hlt, ?_⟩
    exact q _ _ s1 (hall _ (mem_at (at_map hlt))).1 (hall _ (mem_at (at_map hlt))).2
end
end K70
-- F70
namespace K70
open PySem PySem.Spec PyProof.Rows L2
section
variable {P : Program} {w : World} {K : PySem.W.Frag} {mg : Str → Option Value} {base : Heap}
theorem rep0 (n : Nat) : (List.replicate n [V.int 0]).flatten = (List.replicate n (0 : Int)).map V.int := by rw [List.flatten_replicate_singleton, List.map_replicate]
theorem ix_ok {n j : Nat} {i : Int} (e : i = (j : Int)) (h : j < n) : ixN n i = some j := by
  unfold ixN
  rw [if_pos (by omega), if_pos (by omega), e]; rfl
theorem mem_set {α : Type} {xs : List α} {i : Nat} {y x : α} (h : x ∈ xs.set i y) : x ∈ xs ∨ x = y := List.mem_or_eq_of_mem_set h
theorem set_map {xs : List Int} {i : Nat} {r : Int} : (xs.map V.int).set i (V.int r) = (xs.set i r).map V.int := by rw [List.map_set]
def OutE (H : Hp) (Q : VK) : Prop := ∀ H' p ns, Same H H' → H p = none → IL H' p ns → VE ns → NZ ns → Q (.ref p) H'
/-- orders, one after the other -/
def OA (ns : List Int) : Prop := ns.Pairwise (· < ·) ∧ ∀ x ∈ ns, 0 ≤ x ∧ x < 4
def OutO (H : Hp) (Q : VK) : Prop := ∀ H' p ns, Same H H' → H p = none → IL H' p ns → VE ns → OA ns → Q (.ref p) H'
def sp_law_element : Sp := fun vs H Q _ => ∃ (a : Addr) (ds : List Int) (k sh : Int), vs = [.ref a, .int k, .int sh] ∧ IL H a ds ∧ 0 ≤ k ∧ OutE H Q
theorem ok_law_element (T : Txt K mg) : FnOk P w K mg base CX0 3 T.law_element.a T.law_element.fd ["draws", "k", "shares"] sp_law_element := by
  refine T.law_element.F.ok sc_law_element (fun vs H Q E h => ?_) (fun cdv A outer s H vs Q E hr h => ?_)
  · obtain ⟨a, ds, k, sh, rfl, _⟩ := h
    rfl
  · obtain ⟨a, ds, k, sh, rfl, ha, hk, q⟩ := h
    refine ⟨_, (pss_cons (ps_if (pt_cmpR op_lt (pe_call (ok_law_mix T) (hr.mono (by decide)) (by rfl) T.law_mix.g T.law_mix.F.kp T.law_mix.b .nil pass0 (pa_cons (pv 0) (pa_cons (pv 1) (pa_cons pe_int pa_nil)))) (pv 2) (nomark _))
        (pss_one (ps_ret (pe_lst pa_nil)))
        pss_nil)
      (pss_cons (ps_set (i := 3) sc_law_element.nd rfl (.inl rfl) (pe_op op_rep (pe_lst (pa_cons pe_int pa_nil)) (pe_call (ok_law_mix T) (hr.mono (by decide)) (by rfl) T.law_mix.g T.law_mix.F.kp T.law_mix.b .nil pass0 (pa_cons (pv 0) (pa_cons (pe_op op_add (pv 1) pe_int) (pa_cons (pe_ix ix_list (pe_lst (pa_cons pe_int (pa_cons pe_int pa_nil))) (pe_call (ok_law_mix T) (hr.mono (by decide)) (by rfl) T.law_mix.g T.law_mix.F.kp T.law_mix.b .nil pass0 (pa_cons (pv 0) (pa_cons (pe_op op_add (pv 1) pe_int) (pa_cons pe_int pa_nil)))) (fun _ _ => rfl)) pa_nil))))))
      (pss_cons (ps_for PassesOwn.never rfl (pi_range1 (by rfl) T.m_range (pa_cons (pe_callB call_len_seq (by rfl) T.m_len (by decide +kernel) (pa_cons (pv 3) pa_nil)) pa_nil)) (pg_name (i := 4) sc_law_element.nd rfl (.inl rfl))
        (pss_one (ps_if (pt_cmpR op_eq (pe_call (ok_law_mix T) (hr.mono (by decide)) (by rfl) T.law_mix.g T.law_mix.F.kp T.law_mix.b .nil pass0 (pa_cons (pv 0) (pa_cons (pe_op op_add (pe_op op_add (pv 1) pe_int) (pe_op op_mul pe_int (pv 4))) (pa_cons pe_int pa_nil)))) pe_int (nomark _))
          (pss_one (ps_asg (pe_call (ok_law_number T) (hr.mono (by decide)) (by rfl) T.law_number.g T.law_number.F.kp T.law_number.b .nil pass0 (pa_cons (pv 0) (pa_cons (pe_op op_add (pe_op op_add (pv 1) pe_int) (pe_op op_mul pe_int (pv 4))) pa_nil))) (pg_sub (pv 3) (pv 4) set_list)))
          pss_nil)))
      (pss_one (ps_ret (pe_op op_cat (pv 3) (pe_lst (pa_cons (pe_call (ok_law_number T) (hr.mono (by decide)) (by rfl) T.law_number.g T.law_number.F.kp T.law_number.b .nil pass0 (pa_cons (pv 0) (pa_cons (pe_op op_add (pv 1) pe_int) pa_nil))) pa_nil)))))))), ?_⟩
    refine ⟨.ref a, rfl, _, rfl, a, ds, _, _, rfl, ha, hk, by decide, fun r0 p0 u0 => ?_⟩
    refine ⟨_, rfl, _, _, rfl, rfl, _, rfl, ?_⟩
    refine ite2 (fun _ => ?_) (fun _ => ?_)
    · exact ⟨by show 0 ≤ sizeLine; decide, fun p hp => q _ p [] (same_upd hp) hp upd_same ⟨by show 0 ≤ 4; decide, fun _ z => by cases z⟩ nz_nil⟩
    refine ⟨by show 1 ≤ sizeLine; decide, fun l0 n0 => ?_⟩
    have s0 := same_upd n0 (o := .lst [.int 0])
    refine ⟨.ref a, rfl, _, rfl, _, _, rfl, rfl, by show 2 ≤ sizeLine; decide, fun l1 n1 => ?_⟩
    have s1 := same_upd n1 (o := .lst [.int 2, .int 4])
    refine ⟨.ref a, rfl, _, rfl, _, _, rfl, rfl, a, ds, _, _, rfl, ha.same (s0.trans s1), by omega, by decide, fun r2 p2 u2 => ?_⟩
    have hlt : r2.toNat < [(2 : Int), 4].length := by show _ < 2; omega
    refine ⟨l1, _, _, _, rfl, rfl, .of upd_same, at_map' (ns := [2, 4]) (m := r2.toNat) (by omega) hlt, ?_⟩
    have hm : ∀ x ∈ [(2 : Int), 4], 0 < x ∧ x ≤ 4 := by decide
    obtain ⟨m0, m1⟩ := hm _ (mem_at (at_map hlt))
    refine ⟨a, ds, _, _, rfl, ha.same (s0.trans s1), by omega, m0, fun r3 p3 u3 => ?_⟩
    obtain ⟨n, en, hn⟩ : ∃ n : Nat, r3 = (n : Int) ∧ n ≤ 12 := ⟨r3.toNat, by omega, by omega⟩
    subst en
    refine ⟨l0, _, _, rfl, rfl, s1 _ _ upd_same, by omega, by omega, by show 1 * _ ≤ _; rw [Int.toNat_natCast]; exact small (by omega), fun D nD => ?_⟩
    rw [Int.toNat_natCast, rep0]
    have sD := s0.trans (s1.trans (same_upd nD (o := .lst ((List.replicate n (0 : Int)).map V.int))))
    have nD0 : H D = none := (s0.trans s1).free nD
    refine ⟨.ref D, rfl, D, _, rfl, .inl (.of upd_same), (n : Nat), by rw [List.length_map, List.length_replicate], by omega, by omega, ?_⟩
    rw [Int.toNat_natCast]
    refine for_range (n := n) (lo := 0) (fun i σ H' => Same H H' ∧ ∃ (xs : List Int) (v4 : Option V), σ = [some (.ref a), some (.int k), some (.int sh), some (.ref D), v4] ∧ IL H' D xs ∧ xs.length = n ∧ ∀ x ∈ xs, x.natAbs ≤ 10 ^ 30) ⟨sD, _, none, rfl, upd_same, List.length_replicate, fun x hx => by rw [(List.mem_replicate.mp hx).2]; decide⟩ (fun i σ H' hi hP => ?_) (fun σ H' hP => ?_)
    · obtain ⟨sm, xs, v4, rfl, hD, hl, hb⟩ := hP
      refine ⟨.ref a, rfl, _, rfl, _, _, rfl, rfl, _, rfl, _, _, rfl, rfl, .inl ⟨by decide, by decide⟩, _, _, rfl, rfl, a, ds, _, _, rfl, ha.same sm, by omega, by decide, fun r4 p4 u4 => ⟨rfl, _, rfl, ?_⟩⟩
      refine ite2 (fun _ => ?_) (fun _ => ⟨sm, xs, _, rfl, hD, hl, hb⟩)
      refine ⟨.ref a, rfl, _, rfl, _, _, rfl, rfl, _, rfl, _, _, rfl, rfl, .inl ⟨by decide, by decide⟩, _, _, rfl, rfl, a, ds, _, rfl, ha.same sm, by omega, fun G r5 s5 u5 _ => ?_⟩
      refine ⟨.ref D, rfl, _, rfl, D, _, _, i, rfl, rfl, s5 _ _ hD, ix_ok (by omega) (by rw [List.length_map]; omega), ?_⟩
      rw [set_map]
      refine ⟨same_over (sm.trans s5) nD0, _, _, rfl, upd_same, by rw [List.length_set]; exact hl, fun x hx => ?_⟩
      rcases mem_set hx with z | z
      · exact hb x z
      · rw [z]; exact u5
    · obtain ⟨sm, xs, v4, rfl, hD, hl, hb⟩ := hP
      refine ⟨.ref D, rfl, .ref a, rfl, _, rfl, _, _, rfl, rfl, a, ds, _, rfl, ha.same sm, by omega, fun G r6 s6 u6 v6 => ?_⟩
      refine ⟨by show 1 ≤ sizeLine; decide, fun l2 n2 => ?_⟩
      have s2 := same_upd n2 (o := .lst [.int r6])
      refine ⟨D, l2, _, _, rfl, rfl, s2 _ _ (s6 _ _ hD), upd_same, by rw [List.length_map]; exact small (by show _ + 1 ≤ _; omega), fun p np => ?_⟩
      have sp := same_upd np (o := .lst (xs.map V.int ++ [.int r6]))
      refine q _ p (xs ++ [r6]) (sm.trans (s6.trans (s2.trans sp))) ((sm.trans (s6.trans s2)).free np) (by unfold IL; rw [← app_ints]; exact upd_same) ⟨by rw [List.length_append]; show _ + 1 ≤ _; omega, fun x hx => ?_⟩ (nz_snoc v6)
      rcases List.mem_append.mp hx with z | z
      · exact hb x z
      · rw [List.mem_singleton.mp z]; exact u6
def sp_law_orders : Sp := fun vs H Q _ => ∃ (a : Addr) (ds : List Int) (k sh : Int), vs = [.ref a, .int k, .int sh] ∧ IL H a ds ∧ 0 ≤ k ∧ OutO H Q
theorem ok_law_orders (T : Txt K mg) : FnOk P w K mg base CX0 2 T.law_orders.a T.law_orders.fd ["draws", "k", "shares"] sp_law_orders := by
  refine T.law_orders.F.ok sc_law_orders (fun vs H Q E h => ?_) (fun cdv A outer s H vs Q E hr h => ?_)
  · obtain ⟨a, ds, k, sh, rfl, _⟩ := h
    rfl
  · obtain ⟨a, ds, k, sh, rfl, ha, hk, q⟩ := h
    refine ⟨_, (pss_cons (ps_if (pt_cmpR op_lt (pe_call (ok_law_mix T) (hr.mono (by decide)) (by rfl) T.law_mix.g T.law_mix.F.kp T.law_mix.b .nil pass0 (pa_cons (pv 0) (pa_cons (pv 1) (pa_cons pe_int pa_nil)))) (pv 2) (nomark _))
        (pss_one (ps_ret (pe_lst pa_nil)))
        pss_nil)
      (pss_cons (ps_set (i := 3) sc_law_orders.nd rfl (.inr rfl) (pe_op op_add pe_int (pe_call (ok_law_mix T) (hr.mono (by decide)) (by rfl) T.law_mix.g T.law_mix.F.kp T.law_mix.b .nil pass0 (pa_cons (pv 0) (pa_cons (pe_op op_add (pv 1) pe_int) (pa_cons pe_int pa_nil))))))
      (pss_one (ps_ret (pe_lc (own := [("order", 4)]) rfl sc_law_orders.nd (pi_range1 (by rfl) T.m_range (pa_cons pe_int pa_nil)) (blkOk_by (N := ["draws", "k", "shares", "chosen", "order"]) (sc := defScope s_law_orders) (by decide +kernel)) (fun _ _ _ _ _ => (pg_name (i := 4) sc_law_orders.nd rfl (.inl rfl))) (fun _ _ _ _ _ => (pts_one (pt_cmpR op_eq (pe_op op_and (pe_op op_shr (pv 3) (pv 4)) pe_int) pe_int (nomark _)))) (fun _ _ _ _ _ => (pv 4))))))), ?_⟩
    refine ⟨.ref a, rfl, _, rfl, a, ds, _, _, rfl, ha, hk, by decide, fun r0 p0 u0 => ?_⟩
    refine ⟨_, rfl, _, _, rfl, rfl, _, rfl, ?_⟩
    refine ite2 (fun _ => ?_) (fun _ => ?_)
    · exact ⟨by show 0 ≤ sizeLine; decide, fun p hp => q _ p [] (same_upd hp) hp upd_same ⟨by show 0 ≤ 4; decide, fun _ z => by cases z⟩ ⟨.nil, fun _ z => by cases z⟩⟩
    refine ⟨.ref a, rfl, _, rfl, _, _, rfl, rfl, a, ds, _, _, rfl, ha, by omega, by decide, fun r1 p1 u1 => ?_⟩
    refine ⟨_, _, rfl, rfl, ?_⟩
    · refine ⟨4, rfl, by decide, by decide, fun D nD => ?_⟩
      refine lc_inv (walk_range (lo := 0) (n := 4)) (fun i G ys => ∃ ns : List Int, ys = ns.map V.int ∧ ns.length ≤ i ∧ (∀ x ∈ ns, 0 ≤ x ∧ x < 4) ∧ ns.Pairwise (· < ·) ∧ ∀ x ∈ ns, x < i) nD (fun _ _ => trivial) (by decide) ⟨[], rfl, Nat.le_refl _, (fun _ z => by cases z), .nil, fun _ z => by cases z⟩ (fun i x G Hx ys hi sm hD hR y Qt Qf qt qf => ?_) (fun G ys sm hD hR => ?_)
      · obtain ⟨rfl, rfl⟩ := y
        obtain ⟨ns, rfl, hl, hb, hp, hi2⟩ := hR
        refine ⟨rfl, _, rfl, _, rfl, _, _, rfl, rfl, by omega, _, _, rfl, rfl, rfl, _, rfl, ?_⟩
        refine ite2 (fun _ => ?_) (fun _ => ?_)
        · refine ⟨_, rfl, qt _ _ (Same.refl _) ⟨ns ++ [0 + (i : Int)], app_ints, by rw [List.length_append]; exact Nat.succ_le_succ hl, fun x hx => ?_, List.pairwise_append.mpr ⟨hp, List.pairwise_singleton _ _, fun x hx y hy => by rw [List.mem_singleton.mp hy]; have := hi2 x hx; omega⟩, fun x hx => ?_⟩⟩
          · rcases List.mem_append.mp hx with z | z
            · exact hb x z
            · rw [List.mem_singleton.mp z]; omega
          · rcases List.mem_append.mp hx with z | z
            · have := hi2 x z; omega
            · rw [List.mem_singleton.mp z]; omega
        · exact qf _ (Same.refl _) ⟨ns, rfl, by omega, hb, hp, fun x hx => by have := hi2 x hx; omega⟩
      · obtain ⟨ns, rfl, hl, hb, hp, hi2⟩ := hR
        exact q _ D ns sm nD hD ⟨by omega, fun x hx => by have := hb x hx; omega⟩ ⟨hp, hb⟩
end
end K70
-- G70
namespace K70
open PySem PySem.Spec PyProof.Rows L2
/-- a statement by what is asked of one before it -/
theorem ps_via {X : Cx} {st : Stmt} {t t' : TS} (h : PS X st t) (f : ∀ D σ H, t' D σ H → t D σ H) : PS X st t' := ⟨fun pins s σ H D I z => h.run pins s σ H D I (f D σ H z)⟩
/-- a row under way: its elements new, none of them at D -/
def RN (D : Addr) (H0 H : Hp) (as : List Addr) (es : List (List Int)) : Prop := A2 (fun a ns => (a ≠ D ∧ H0 a = none) ∧ IL H a ns) as es
/-- a row, its elements new -/
def RowF (H0 H : Hp) (b : Addr) (els : List (List Int)) : Prop := ∃ as : List Addr, H b = some (.lst (as.map V.ref)) ∧ A2 (fun e ns => H0 e = none ∧ IL H e ns) as els
theorem RN.up {D : Addr} {H0 H H' : Hp} {as : List Addr} {es : List (List Int)} (h : RN D H0 H as es) (s : SameX D H H') : RN D H0 H' as es := h.mono fun _ _ z => ⟨z.1, s _ _ z.1.1 z.2⟩
theorem RN.row {D : Addr} {H0 H : Hp} {as : List Addr} {es : List (List Int)} (h : RN D H0 H as es) (hD : H D = some (.lst (as.map V.ref))) : RowF H0 H D es := ⟨as, hD, h.mono fun _ _ z => ⟨z.1.2, z.2⟩⟩
theorem RN.snoc {D y : Addr} {H0 H H4 : Hp} {as : List Addr} {es : List (List Int)} {e : List Int} {o : HO} (h : RN D H0 H as es) (s : Same H H4) (n : y ≠ D) (n0 : H0 y = none) (hy : IL H4 y e) : RN D H0 (upd H4 D o) (as ++ [y]) (es ++ [e]) :=
  A2.snoc ⟨⟨n, n0⟩, by unfold IL; rw [upd_ne n]; exact hy⟩ (h.up ((sx s).trans SameX.put))
theorem ve_snoc {p : List Int → Prop} {es : List (List Int)} {e : List Int} (h : ∀ x ∈ es, p x) (n : p e) : ∀ x ∈ es ++ [e], p x := fun x hx => by
  rcases List.mem_append.mp hx with z | z
  · exact h x z
  · rw [List.mem_singleton.mp z]; exact n
section
variable {P : Program} {w : World} {K : PySem.W.Frag} {mg : Str → Option Value} {base : Heap}
theorem RowL.same {H H' : Hp} {b : Addr} {els : List (List Int)} (h : RowL H b els) (s : Same H H') : RowL H' b els := h.lk (K70.lk s)
def OutR (many : Nat) (H : Hp) (Q : VK) : Prop := ∀ H' p els, Same H H' → H p = none → RowF H H' p els → VR many els → (∀ e ∈ els, NZ e) → Q (.ref p) H'
/-- behind the test: the numbers go with the row -/
def Fit (sc sh : Int) (els : List (List Int)) : Prop := 0 ≤ sh ∧ sh ≤ 1 ∧ (sc.natAbs ≤ 2 ∧ sc ≠ 0) ∧ ∀ e ∈ els, (e.length : Int) + sh ≤ 4 ∧ ∀ n ∈ e, (sc * n).natAbs ≤ 10 ^ 30
/-! data -/
def dI (ns : List Int) : PyData := .list (ns.map PyData.int)
theorem ints_lay : ∀ ns : List Int, PyData.canLayAll0 (ns.map PyData.int) = true ∧ PyData.depthAll (ns.map PyData.int) = 0
  | [] => ⟨rfl, rfl⟩
  | n :: r => by
    obtain ⟨a, b⟩ := ints_lay r
    refine ⟨?_, ?_⟩
    · show (PyData.canLay0 (.int n) && PyData.canLayAll0 (r.map PyData.int)) = true
      rw [a]; rfl
    · show max (PyData.depth (.int n)) (PyData.depthAll (r.map PyData.int)) = 0
      rw [b]; rfl
theorem lay_dI (ns : List Int) : (dI ns).canLay0 = true := (ints_lay ns).1
theorem dep_dI (ns : List Int) : (dI ns).depth = 1 := by
  show PyData.depthAll (ns.map PyData.int) + 1 = 1
  rw [(ints_lay ns).2]
theorem shaped_dI (ns : List Int) : SeqAt.shaped (dI ns) = true := by
  unfold SeqAt.shaped
  rw [lay_dI, dep_dI]; rfl
theorem eqv_nil (ns : List Int) : PyData.eqv (dI ns) (.list []) = decide (ns = []) := by
  cases ns <;> simp [dI, PyData.eqv, PyData.eqvAll]
theorem dp_ints {K : PySem.W.Frag} {H : Hp} : ∀ ns : List Int, DpAll K H (ns.map V.int) (ns.map PyData.int)
  | [] => .nil
  | n :: r => .cons (.int n) (dp_ints r)
theorem dpI {K : PySem.W.Frag} {H : Hp} {a : Addr} {ns : List Int} (h : SqL K H a (ns.map V.int)) : Dp K H (.ref a) (dI ns) := .lst h (dp_ints ns)
def T1 (K : PySem.W.Frag) : TS := fun D σ H => ∃ (a b : Addr) (k sc sh : Int) (els : List (List Int)), σ = [some (.ref a), some (.int k), some (.ref b), some (.int sc), some (.int sh), none, none, none, none, none, none] ∧ RowL H b els ∧ (∀ e ∈ els, VE e) ∧ els.length ≤ 16 ∧ 0 < els.length ∧ 0 ≤ sh ∧ sh ≤ 1 ∧ (sc.natAbs ≤ 2 ∧ sc ≠ 0) ∧
  ∀ H' sc' sh', Same H H' → Fit sc' sh' els → D.nx [some (.ref a), some (.int k), some (.ref b), some (.int sc'), some (.int sh'), none, none, none, none, none, none] H'
theorem row_ref {as : List Addr} {j : Nat} {x : V} (h : (as.map V.ref)[j]? = some x) : ∃ r, as[j]? = some r ∧ x = .ref r := by
  rw [List.getElem?_map] at h
  cases e : as[j]? with
  | none => rw [e] at h; cases h
  | some r => rw [e] at h; exact ⟨r, rfl, (Option.some.inj h).symm⟩
theorem row_lists {H : Hp} {as : List Addr} {els : List (List Int)} (h : A2 (IL H) as els) : LM.Lists H (as.map V.ref) (els.map fun e => e.map V.int) := by
  refine ⟨by rw [List.length_map, List.length_map, h.len], fun j zs z => ?_⟩
  rw [List.getElem?_map] at z
  cases e : els[j]? with
  | none => rw [e] at z; cases z
  | some ns =>
    rw [e] at z
    cases z
    obtain ⟨c, hc, hz⟩ := h.get' e
    exact ⟨c, by rw [List.getElem?_map, hc]; rfl, hz⟩
theorem flat_len {els : List (List Int)} {c : Nat} (h : ∀ e ∈ els, e.length ≤ c) : (els.map fun e => e.map V.int).flatten.length ≤ els.length * c := by
  induction els with
  | nil => exact Nat.zero_le _
  | cons e r ih =>
    rw [List.map_cons, List.flatten_cons, List.length_append, List.length_map, List.length_cons, Nat.succ_mul]
    have := ih fun x hx => h x (List.mem_cons_of_mem _ hx)
    have := h e List.mem_cons_self
    omega
theorem flat_map (els : List (List Int)) : (els.map fun e => e.map V.int).flatten = els.flatten.map V.int := by rw [List.map_flatten]
theorem small_flat {els : List (List Int)} (h : ∀ e ∈ els, VE e) (n : els.length ≤ 16) : els.flatten.length ≤ 208 := by
  have := flat_len (c := 4) fun e he => (h e he).1
  rw [flat_map, List.length_map] at this
  omega
theorem repB {b s : Nat} (h : b ≤ 1) : ∃ m, m ≤ s ∧ (b = 0 → m = 0) ∧ (List.replicate b ((List.replicate s (0 : Int)).map V.int)).flatten = (List.replicate m (0 : Int)).map V.int := by
  rcases Nat.eq_zero_or_pos b with rfl | z
  · exact ⟨0, Nat.zero_le _, fun _ => rfl, rfl⟩
  · obtain rfl : b = 1 := by omega
    exact ⟨s, Nat.le_refl _, (fun z => by cases z), by show (_ ++ []) = _; rw [List.append_nil]⟩
theorem cut_from1 {ns : List Int} : cutV (ns.map V.int) (some 1) none = (ns.drop 1).map V.int := cut_from
theorem ve_drop {e : List Int} {x : Int} {m : Nat} (h : VE e) (hx : x.natAbs ≤ 10 ^ 30) : VE (([x] ++ e.drop 1).take m) := by
  refine ⟨?_, fun n hn => ?_⟩
  · have := h.1
    rw [List.length_take, List.length_append, List.length_drop]
    have : [x].length = 1 := rfl
    omega
  · rcases List.mem_append.mp (List.mem_of_mem_take hn) with z | z
    · rw [List.mem_singleton.mp z]; exact hx
    · exact h.2 n (List.mem_of_mem_drop z)
theorem ve_scale {e : List Int} {sc sh : Int} {m : Nat} {els : List (List Int)} (f : Fit sc sh els) (he : e ∈ els) (hm : m ≤ sh.toNat) : VE (List.replicate m 0 ++ e.map fun n => sc * n) := by
  obtain ⟨f0, f1, f2, f3⟩ := f
  obtain ⟨a, b⟩ := f3 e he
  refine ⟨?_, fun n hn => ?_⟩
  · rw [List.length_append, List.length_replicate, List.length_map]
    omega
  · rcases List.mem_append.mp hn with z | z
    · rw [(List.mem_replicate.mp z).2]; decide
    · obtain ⟨x, hx, rfl⟩ := List.mem_map.mp z
      exact b x hx
theorem nz_scale {e : List Int} {sc : Int} {m : Nat} (h : NZ e) (hs : sc ≠ 0) (hm : e = [] → m = 0) : NZ (List.replicate m 0 ++ e.map fun n => sc * n) := by
  rcases Nat.eq_zero_or_pos e.length with z | z
  · have z := List.length_eq_zero_iff.mp z
    rw [hm z, z]; exact nz_nil
  · intro x hx
    rw [List.length_append, List.length_replicate, List.length_map, List.getElem?_append_right (by rw [List.length_replicate]; omega), List.length_replicate, show m + e.length - 1 - m = e.length - 1 by omega, List.getElem?_map, at_map (by omega)] at hx
    rw [← Option.some.inj hx]
    exact Int.mul_ne_zero hs (h _ (at_map (by omega)))
theorem mem_set2 {p : List Int → Prop} {es : List (List Int)} {j : Nat} {y : List Int} (h : ∀ e ∈ es, p e) (hy : p y) : ∀ e ∈ es.set j y, p e := fun e he => by
  rcases mem_set he with z | z
  · exact h e z
  · rw [z]; exact hy
def sp_law_likely : Sp := fun vs H Q _ => ∃ (a b : Addr) (ds : List Int) (k : Int) (els : List (List Int)) (many : Nat), vs = [.ref a, .int k, .ref b] ∧ IL H a ds ∧ 0 ≤ k ∧ RowL H b els ∧ VR many els ∧ (∀ e ∈ els, NZ e) ∧ 0 < many ∧ many ≤ 16 ∧ OutR many H Q
theorem ok_law_likely (T : Txt K mg) : FnOk P w K mg base CX0 3 T.law_likely.a T.law_likely.fd ["draws", "k", "row"] sp_law_likely := by
  refine T.law_likely.F.ok sc_law_likely (fun vs H Q E h => ?_) (fun cdv A outer s H vs Q E hr h => ?_)
  · obtain ⟨a, b, ds, k, els, many, rfl, _⟩ := h
    rfl
  · obtain ⟨a, b, ds, k, els, many, rfl, ha, hk, hb, vr, vz, hm0, hm, q⟩ := h
    refine ⟨_, (pss_cons (ps_set (i := 3) sc_law_likely.nd rfl (.inr rfl) (pe_ix ix_list (pe_lst (pa_cons pe_int (pa_cons (pe_un un_neg pe_int) (pa_cons pe_int pa_nil)))) (pe_call (ok_law_mix T) (hr.mono (by decide)) (by rfl) T.law_mix.g T.law_mix.F.kp T.law_mix.b .nil pass0 (pa_cons (pv 0) (pa_cons (pv 1) (pa_cons pe_int pa_nil)))) (fun _ _ => rfl)))
      (pss_cons (ps_set (i := 4) sc_law_likely.nd rfl (.inr rfl) (pe_op op_fdiv (pe_call (ok_law_mix T) (hr.mono (by decide)) (by rfl) T.law_mix.g T.law_mix.F.kp T.law_mix.b .nil pass0 (pa_cons (pv 0) (pa_cons (pe_op op_add (pv 1) pe_int) (pa_cons pe_int pa_nil)))) pe_int))
      (pss_cons (ps_via (t' := T1 K) (ps_if (PW.pt (pw_or (pt_cmpR op_gt (pe_op op_add (pe_callB (cr_max rfl) (by rfl) T.m_max (by decide +kernel) (pa_cons (pe_op op_cat (pe_lst (pa_cons pe_int pa_nil)) (pe_lc (own := [("element", 8)]) rfl sc_law_likely.nd (pi_list (pv 2)) (blkOk_by (N := ["draws", "k", "row", "scale", "shift", "out", "turn", "j", "element", "number", "n"]) (sc := defScope s_law_likely) (by decide +kernel)) (fun _ _ _ _ _ => (pg_name (i := 8) sc_law_likely.nd rfl (.inl rfl))) (fun _ _ _ _ _ => pts_nil) (fun _ _ _ _ _ => (pe_callB (id := "len") (r := rLenS K) call_lenC (by rfl) T.m_len (by decide +kernel) (pa_cons (pv 8) pa_nil))))) pa_nil)) (pv 4)) pe_int (nomark _)) (pw_or1 (pt_cmpR op_gt (pe_callB (cr_max rfl) (by rfl) T.m_max (by decide +kernel) (pa_cons (pe_op op_cat (pe_lst (pa_cons pe_int pa_nil)) (pe_lc (own := [("n", 10)]) rfl sc_law_likely.nd (pi_list (pe_callB (LM.cr_sumL rfl) (by rfl) T.m_sum (by decide +kernel) (pa_cons (pv 2) (pa_cons (pe_lst pa_nil) pa_nil)))) (blkOk_by (N := ["draws", "k", "row", "scale", "shift", "out", "turn", "j", "element", "number", "n"]) (sc := defScope s_law_likely) (by decide +kernel)) (fun _ _ _ _ _ => (pg_name (i := 10) sc_law_likely.nd rfl (.inl rfl))) (fun _ _ _ _ _ => pts_nil) (fun _ _ _ _ _ => (pe_callB call_abs (by rfl) T.m_abs (by decide +kernel) (pa_cons (pv 10) pa_nil))))) pa_nil)) pe_int (nomark _)))))
        (pss_cons (ps_set (i := 3) sc_law_likely.nd rfl (.inr rfl) pe_int)
        (pss_one (ps_set (i := 4) sc_law_likely.nd rfl (.inr rfl) pe_int)))
        pss_nil) ?t1)
      (pss_cons (ps_setLc (i := 5) (own := [("element", 8)]) rfl sc_law_likely.nd rfl rfl (sw_true rfl rfl rfl (by decide +kernel)) (pi_list (pv 2)) (blkOk_by (N := ["draws", "k", "row", "scale", "shift", "out", "turn", "j", "element", "number", "n"]) (sc := defScope s_law_likely) (by decide +kernel)) (fun _ _ _ _ _ => (pg_name (i := 8) sc_law_likely.nd rfl (.inl rfl))) (fun _ _ _ _ _ => pts_nil) (fun _ _ _ _ _ => (pe_op op_cat (pe_op op_rep (pe_op op_rep (pe_lst (pa_cons pe_int pa_nil)) (pv 4)) (pe_callTy call_int1 (by rfl) T.m_int (by decide +kernel) (pa_cons (pe_cmpR (r := rNeD K) (op_neD hr.units) (pv 8) (pe_lst pa_nil) (nomark _)) pa_nil))) (pe_lc (wi := iList K _) (own := [("number", 9)]) rfl sc_law_likely.nd (pi_list (pv 8)) (blkOk_by (N := ["draws", "k", "row", "scale", "shift", "out", "turn", "j", "element", "number", "n"]) (sc := { kind := .function, names := [(".0", .local), ("element", .local), ("int", .globalImplicit), ("scale", .cell), ("shift", .cell)], isGenerator := false, isCoroutine := false, more := [] }) (by decide +kernel)) (fun _ _ _ _ _ => (pg_name (i := 9) sc_law_likely.nd rfl (.inl rfl))) (fun _ _ _ _ _ => pts_nil) (fun _ _ _ _ _ => (pe_op op_mulW (pv 3) (pv 9)))))))
      (pss_cons (ps_for PassesOwn.never rfl (pi_range1 (by rfl) T.m_range (pa_cons (pe_op op_add pe_int (pe_call (ok_law_mix T) (hr.mono (by decide)) (by rfl) T.law_mix.g T.law_mix.F.kp T.law_mix.b .nil pass0 (pa_cons (pv 0) (pa_cons (pe_op op_add (pv 1) pe_int) (pa_cons pe_int pa_nil))))) pa_nil)) (pg_name (i := 6) sc_law_likely.nd rfl (.inl rfl))
        (pss_cons (ps_set (i := 7) sc_law_likely.nd rfl (.inl rfl) (pe_call (ok_law_mix T) (hr.mono (by decide)) (by rfl) T.law_mix.g T.law_mix.F.kp T.law_mix.b .nil pass0 (pa_cons (pv 0) (pa_cons (pe_op op_add (pe_op op_add (pv 1) pe_int) (pe_op op_mulW pe_int (pv 6))) (pa_cons (pe_callB call_len_seq (by rfl) T.m_len (by decide +kernel) (pa_cons (pv 2) pa_nil)) pa_nil)))))
        (pss_one (ps_asg (pe_call (ok_law_trimmed T) (hr.mono (by decide)) (by rfl) T.law_trimmed.g T.law_trimmed.F.kp T.law_trimmed.b .nil pass0 (pa_cons (pe_op op_cat (pe_lst (pa_cons (pe_op op_sub (pe_call (ok_law_mix T) (hr.mono (by decide)) (by rfl) T.law_mix.g T.law_mix.F.kp T.law_mix.b .nil pass0 (pa_cons (pv 0) (pa_cons (pe_op op_add (pe_op op_add (pv 1) pe_int) (pe_op op_mulW pe_int (pv 6))) (pa_cons pe_int pa_nil)))) pe_int) pa_nil)) (pe_slice sl_list (pe_ix ix_list (pv 5) (pv 7) (fun _ _ => rfl)) (po_some pe_int) po_none)) pa_nil)) (pg_sub (pv 5) (pv 7) set_list)))))
      (pss_one (ps_ret (pv 5)))))))), ?_⟩
    case t1 =>
      intro D σ H h
      obtain ⟨a, b, k, sc, sh, els, rfl, hb, hv, hn, hp, h0, h1, h2, nx⟩ := h
      have one : Fit 1 0 els := ⟨by decide, by decide, by decide, fun e he => ⟨by have := (hv e he).1; omega, fun n hn => by rw [Int.one_mul]; exact (hv e he).2 n hn⟩⟩
      obtain ⟨as, hbl, hA⟩ := hb
      have la := hA.len
      refine ⟨by show 1 ≤ sizeLine; decide, fun l nl => ?_⟩
      have s1 := same_upd nl (o := .lst [.int 0])
      refine ⟨.ref b, rfl, b, rfl, ⟨_, .of (s1 _ _ hbl)⟩, fun D1 nD1 => ?_⟩
      refine lc_fm (walk_list (xs := as.map V.ref)) els (fun e => some (e.length : Int)) (fun _ v n => v = .int n) (fun _ _ _ _ _ z => z) (by rw [List.length_map, la]) nD1 (fun H' s => s.seq (.of (s1 _ _ hbl))) (small' (by rw [List.length_map]; omega)) (fun i x H' Hx ys e he sm hD y Qt Qf qt qf => ?_) (fun G ys sm hD hR => ?_)
      · obtain ⟨rfl, hx⟩ := y
        obtain ⟨c, hc, rfl⟩ := row_ref hx
        obtain ⟨e', he', hI⟩ := hA.get hc
        obtain rfl := Option.some.inj (he.symm.trans he')
        exact ⟨rfl, _, rfl, c, _, rfl, .inl ((hI.same s1).same sm).sq, qt _ _ _ rfl (Same.refl _) (by rw [List.length_map])⟩
      rw [a2_eq hR, fm_some, List.map_map] at hD
      refine ⟨l, D1, _, _, rfl, rfl, sm _ _ upd_same, hD, by rw [List.length_map]; exact small (by show 1 + _ ≤ _; omega), fun p np => ?_⟩
      have s2 : Same H (upd G p (.lst ([V.int 0] ++ els.map ((fun n => V.int n) ∘ fun e => (e.length : Int))))) := s1.trans (sm.trans (same_upd np))
      refine ⟨p, 0 :: els.map (fun e => (e.length : Int)), rfl, .of (by rw [upd_same]; show some (HO.lst (V.int 0 :: _)) = some (HO.lst (V.int 0 :: _)); rw [List.map_map]; rfl), by rw [List.length_cons]; omega, fun m hm hle => ?_⟩
      refine ⟨_, rfl, _, _, rfl, rfl, _, _, rfl, rfl, _, rfl, ?_⟩
      refine ite2 (fun h => iteT (nx _ 1 0 s2 one)) (fun hno => ?_)
      have hlen : ∀ e ∈ els, (e.length : Int) + sh ≤ 4 := fun e he => by
        have := hle _ (List.mem_cons_of_mem _ (List.mem_map.mpr ⟨e, he, rfl⟩))
        have : ¬ (4 < m + sh) := fun z => hno (decide_eq_true z)
        omega
      refine ⟨by show 1 ≤ sizeLine; decide, fun l2 nl2 => ?_⟩
      have s3 := s2.trans (same_upd nl2 (o := .lst [.int 0]))
      refine ⟨.ref b, rfl, by show 0 ≤ sizeLine; decide, fun l3 nl3 => ?_⟩
      have s4 := s3.trans (same_upd nl3 (o := .lst []))
      refine ⟨b, l3, _, [], els.map fun e => e.map V.int, rfl, .of (s4 _ _ hbl), upd_same, row_lists (hA.mono fun _ _ z => z.same s4), ?_, fun e => ?_, fun p2 np2 => ?_⟩
      · rw [flat_map, List.length_map]
        have := small_flat hv hn
        exact small (by show 0 + _ ≤ _; omega)
      · have : as.length = 0 := by rw [← List.length_map (f := V.ref), e]; rfl
        omega
      rw [List.nil_append, flat_map]
      have s5 := s4.trans (same_upd np2 (o := .lst (els.flatten.map V.int)))
      refine ⟨p2, rfl, ⟨_, .of upd_same⟩, fun D2 nD2 => ?_⟩
      refine lc_fm (walk_list (xs := els.flatten.map V.int)) els.flatten (fun n => some (if n < 0 then -n else n)) (fun _ v n => v = .int n) (fun _ _ _ _ _ z => z) (by rw [List.length_map]) nD2 (fun H' s => s.seq (.of upd_same)) (small' (by rw [List.length_map]; have := small_flat hv hn; omega)) (fun i x H' Hx ys e he sm hD y Qt Qf qt qf => ?_) (fun G2 ys sm2 hD2 hR2 => ?_)
      · obtain ⟨rfl, hx⟩ := y
        rw [List.getElem?_map, he] at hx
        obtain rfl := Option.some.inj hx
        exact ⟨rfl, _, rfl, _, rfl, qt _ _ _ rfl (Same.refl _) rfl⟩
      rw [a2_eq hR2, fm_some, List.map_map] at hD2
      have l2G : G2 l2 = some (.lst [.int 0]) := sm2 _ _ (by
        refine same_upd np2 _ _ (same_upd nl3 _ _ upd_same))
      refine ⟨l2, D2, _, _, rfl, rfl, l2G, hD2, by rw [List.length_map]; have := small_flat hv hn; exact small (by show 1 + _ ≤ _; omega), fun p3 np3 => ?_⟩
      have s6 : Same H (upd G2 p3 (.lst ([V.int 0] ++ els.flatten.map ((fun n => V.int n) ∘ fun n => if n < 0 then -n else n)))) := s5.trans (sm2.trans (same_upd np3))
      refine ⟨p3, 0 :: els.flatten.map (fun n => if n < 0 then -n else n), rfl, .of (by rw [upd_same]; show some (HO.lst (V.int 0 :: _)) = some (HO.lst (V.int 0 :: _)); rw [List.map_map]; rfl), by rw [List.length_cons]; omega, fun m2 hm2 hle2 => ?_⟩
      refine ⟨_, _, rfl, rfl, _, rfl, ?_⟩
      refine ite2 (fun h => nx _ 1 0 s6 one) (fun hno2 => nx _ sc sh s6 ⟨h0, h1, h2, fun e he => ⟨hlen e he, fun n hn => ?_⟩⟩)
      have := hle2 _ (List.mem_cons_of_mem _ (List.mem_map.mpr ⟨n, List.mem_flatten.mpr ⟨e, he, hn⟩, rfl⟩))
      have h4 : ¬ (400000 < m2) := fun z => hno2 (decide_eq_true z)
      have h5 : n.natAbs ≤ 400000 := by split at this <;> omega
      rw [Int.natAbs_mul]
      exact Nat.le_trans (Nat.mul_le_mul h2.1 h5) (by decide)
    refine ⟨_, rfl, by show 3 ≤ sizeLine; decide, fun l0 n0 => ?_⟩
    have s0 := same_upd n0 (o := .lst [.int 1, .int (-1), .int 2])
    refine ⟨.ref a, rfl, _, rfl, a, ds, _, _, rfl, ha.same s0, hk, by decide, fun r0 p0 u0 => ?_⟩
    have hlt : r0.toNat < [(1 : Int), -1, 2].length := by show _ < 3; omega
    refine ⟨l0, _, _, _, rfl, rfl, .of upd_same, at_map' (ns := [1, -1, 2]) (m := r0.toNat) (by omega) hlt, ?_⟩
    have hsc : (cf [1, -1, 2] r0.toNat).natAbs ≤ 2 ∧ cf [1, -1, 2] r0.toNat ≠ 0 := (by decide : ∀ x ∈ [(1 : Int), -1, 2], x.natAbs ≤ 2 ∧ x ≠ 0) _ (mem_at (at_map hlt))
    generalize cf [1, -1, 2] r0.toNat = sc at hsc
    refine ⟨.ref a, rfl, _, rfl, _, _, rfl, rfl, a, ds, _, _, rfl, ha.same s0, by omega, by decide, fun r1 p1 u1 => ?_⟩
    refine ⟨_, _, rfl, rfl, ⟨by decide, by decide⟩, ?_⟩
    refine ⟨a, b, k, sc, r1 / 2, els, rfl, hb.same s0, vr.2, by have := vr.1; omega, by have := vr.1; omega, by omega, by omega, hsc, fun G sc sh sG fit => ?_⟩
    have s1 := s0.trans sG
    obtain ⟨rs, hbG, hrs⟩ := hb.same s1
    refine ⟨.ref b, rfl, b, rfl, ⟨_, .of hbG⟩, fun D nD => ?_⟩
    have lrs := hrs.len
    have lel := vr.1
    refine lc_inv (walk_list (xs := rs.map V.ref)) (fun i G' ys => ∃ (as : List Addr) (es : List (List Int)), ys = as.map V.ref ∧ RN D H G' as es ∧ es.length = i ∧ ∀ e ∈ es, VE e ∧ NZ e) nD (fun H' s => s.seq (.of hbG)) (small' (by rw [List.length_map]; omega)) ⟨[], [], rfl, .nil, rfl, fun _ z => by cases z⟩ (fun i x G1 Hx ys hi sm hD hR y Qt Qf qt qf => ?_) (fun G1 ys sm hD hR => ?_)
    · obtain ⟨rfl, hx⟩ := y
      obtain ⟨c, hc, rfl⟩ := row_ref hx
      obtain ⟨e, he, hI⟩ := hrs.get hc
      obtain ⟨as, es, rfl, hrn, hlen, hve⟩ := hR
      have hee := mem_at he
      obtain ⟨f0, f1, f2, f3⟩ := fit
      refine ⟨rfl, by show 1 ≤ sizeLine; decide, fun l1 n1 => ?_⟩
      have t1 := same_upd n1 (o := .lst [.int 0])
      refine ⟨_, rfl, l1, sh, _, rfl, rfl, upd_same, by omega, by omega, by show 1 * _ ≤ _; exact small (by omega), fun l2 n2 => ?_⟩
      rw [rep0]
      have t2 := t1.trans (same_upd n2 (o := .lst ((List.replicate sh.toNat (0 : Int)).map V.int)))
      refine ⟨.ref c, rfl, by show 0 ≤ sizeLine; decide, fun l3 n3 => ?_⟩
      have t3 := t2.trans (same_upd n3 (o := .lst []))
      refine ⟨dI e, .list [], dpI ((hI.same sm).same t3).sq, .lst (.of upd_same) .nil, shaped_dI e, rfl, ?_⟩
      refine .inr ⟨_, rfl, ?_⟩
      obtain ⟨bi, eb, b0, b1, bz⟩ : ∃ bi : Int, (if (!PyData.eqv (dI e) (.list [])) = true then (1 : Int) else 0) = bi ∧ 0 ≤ bi ∧ bi ≤ 1 ∧ (e = [] → bi = 0) := ⟨_, rfl, by split <;> omega, by split <;> omega, fun z => by rw [eqv_nil, decide_eq_true z]; rfl⟩
      rw [eb]
      refine ⟨l2, bi, _, rfl, rfl, same_upd n3 _ _ upd_same, by omega, by omega, by rw [List.length_map, List.length_replicate]; exact small (Nat.le_trans (Nat.mul_le_mul (show _ ≤ 1 by omega) (show _ ≤ 1 by omega)) (by decide)), fun l4 n4 => ?_⟩
      obtain ⟨m, hm1, hmz, em⟩ := repB (b := bi.toNat) (s := sh.toNat) (by omega)
      rw [em]
      have t4 := t3.trans (same_upd n4 (o := .lst ((List.replicate m (0 : Int)).map V.int)))
      refine ⟨.ref c, rfl, c, rfl, ⟨_, ((hI.same sm).same t4).sq⟩, fun D2 nD2 => ?_⟩
      have ve := vr.2 e hee
      refine lc_fm (walk_list (xs := e.map V.int)) e (fun n => some (sc * n)) (fun _ v n => v = .int n) (fun _ _ _ _ _ z => z) (by rw [List.length_map]) nD2 (fun H' s => s.seq (((hI.same sm).same t4).sq)) (small' (by rw [List.length_map]; have := ve.1; omega)) (fun i2 x2 H2 Hx2 ys2 n hn sm2 hD2 y2 Qt2 Qf2 qt2 qf2 => ?_) (fun G2 ys2 sm2 hD2 hR2 => ?_)
      · obtain ⟨rfl, hx2⟩ := y2
        rw [List.getElem?_map, hn] at hx2
        obtain rfl := Option.some.inj hx2
        have := ve.2 n (mem_at hn)
        exact ⟨rfl, _, rfl, _, rfl, _, _, rfl, rfl, wide_mul (a := 2) (b := 100) (by omega) (Nat.lt_of_le_of_lt this (by decide)) (by decide) (by decide) (by decide), qt2 _ _ _ rfl (Same.refl _) rfl⟩
      rw [a2_eq hR2, fm_some, List.map_map] at hD2
      refine ⟨l4, D2, _, _, rfl, rfl, sm2 _ _ upd_same, hD2, by rw [List.length_map, List.length_map, List.length_replicate]; have := ve.1; exact small (by omega), fun p np => ?_⟩
      have t5 := t4.trans (sm2.trans (same_upd np (o := .lst ((List.replicate m (0 : Int)).map V.int ++ e.map ((fun n => V.int n) ∘ fun n => sc * n)))))
      have pD : p ≠ D := fun z => by
        have := (t4.trans sm2) D _ hD
        rw [← z, np] at this
        cases this
      refine qt _ _ t5 ⟨as ++ [p], es ++ [List.replicate m 0 ++ e.map fun n => sc * n], by rw [List.map_append]; rfl, hrn.snoc t5 pD ((s1.trans (sm.trans (t4.trans sm2))).free np) (by unfold IL; rw [upd_same, List.map_append, List.map_map]), by rw [List.length_append, hlen]; rfl, ve_snoc hve ⟨ve_scale ⟨f0, f1, f2, f3⟩ hee hm1, nz_scale (vz e hee) f2.2 fun z => hmz (by rw [bz z]; rfl)⟩⟩
    obtain ⟨as, es, rfl, hrn, hlen, hve⟩ := hR
    rw [List.length_map, lrs, lel] at hlen
    have s2 := s1.trans sm
    have nD0 : H D = none := s1.free nD
    refine ⟨.ref a, rfl, _, rfl, _, _, rfl, rfl, a, ds, _, _, rfl, ha.same s2, by omega, by decide, fun r2 p2 u2 => ?_⟩
    refine ⟨_, _, rfl, rfl, 1 + r2, rfl, by omega, by omega, ?_⟩
    refine for_range (n := (1 + r2).toNat) (lo := 0) (fun i σ G' => Same H G' ∧ ∃ (as : List Addr) (es : List (List Int)) (v6 v7 v8 v9 v10 : Option V), σ = [some (.ref a), some (.int k), some (.ref b), some (.int sc), some (.int sh), some (.ref D), v6, v7, v8, v9, v10] ∧ G' D = some (.lst (as.map V.ref)) ∧ RN D H G' as es ∧ es.length = many ∧ ∀ e ∈ es, VE e ∧ NZ e) ⟨s2, as, es, _, _, _, _, _, rfl, hD, hrn, hlen, hve⟩ (fun i σ G' hi hP => ?_) (fun σ G' hP => ?_)
    · obtain ⟨sm, as, es, v6, v7, v8, v9, v10, rfl, hD, hrn, hlen, hve⟩ := hP
      obtain ⟨rs, hbG, hrs⟩ := hb.same sm
      have lb : (rs.map V.ref).length = many := by rw [List.length_map, hrs.len, lel]
      have wm : CMulW 2 (0 + (i : Int)) := wide_mul (a := 2) (b := 100) (by decide) (Nat.lt_of_le_of_lt (show _ ≤ 4 by omega) (by decide)) (by decide) (by decide) (by decide)
      refine ⟨.ref a, rfl, _, rfl, _, _, rfl, rfl, _, rfl, _, _, rfl, rfl, wm, _, _, rfl, rfl, .ref b, rfl, b, _, rfl, .inl (.of hbG), ?_⟩
      rw [lb]
      refine ⟨a, ds, _, _, rfl, ha.same sm, by omega, by omega, fun r3 p3 u3 => ?_⟩
      obtain ⟨j, ej, hj⟩ : ∃ j : Nat, r3 = (j : Int) ∧ j < many := ⟨r3.toNat, by omega, by omega⟩
      subst ej
      obtain ⟨e, he⟩ := some_at (xs := es) (i := j) (by omega)
      obtain ⟨c, hc, ⟨cD, _⟩, hI⟩ := hrn.get' he
      refine ⟨.ref a, rfl, _, rfl, _, _, rfl, rfl, _, rfl, _, _, rfl, rfl, wm, _, _, rfl, rfl, a, ds, _, _, rfl, ha.same sm, by omega, by decide, fun r4 p4 u4 => ?_⟩
      refine ⟨_, _, rfl, rfl, by show 1 ≤ sizeLine; decide, fun l5 n5 => ?_⟩
      have t5 := same_upd n5 (o := .lst [.int (r4 - 2)])
      refine ⟨.ref D, rfl, _, rfl, D, _, _, _, rfl, rfl, .of (t5 _ _ hD), atI_nat (by rw [List.getElem?_map, hc]; rfl), ?_⟩
      refine ⟨_, rfl, c, _, rfl, (hI.same t5).sq, fun l6 n6 => ?_⟩
      rw [cut_from1]
      have t6 := t5.trans (same_upd n6 (o := .lst ((e.drop 1).map V.int)))
      have ve := (hve e (mem_at he)).1
      refine ⟨l5, l6, _, _, rfl, rfl, same_upd n6 _ _ upd_same, upd_same, by rw [List.length_map, List.length_drop]; have := ve.1; exact small (by show 1 + _ ≤ _; omega), fun l7 n7 => ?_⟩
      have t7 := t6.trans (same_upd n7 (o := .lst ([V.int (r4 - 2)] ++ (e.drop 1).map V.int)))
      refine ⟨l7, [r4 - 2] ++ e.drop 1, rfl, .of (by rw [upd_same, List.map_append]; rfl), by rw [List.length_append, List.length_drop]; have := ve.1; show 1 + _ ≤ _; omega, fun G3 p m s3 np hp hz3 => ?_⟩
      have t8 := t7.trans s3
      have pD : p ≠ D := fun z => by
        have := t7 D _ hD
        rw [← z, np] at this
        cases this
      refine ⟨.ref D, rfl, _, rfl, D, _, _, j, rfl, rfl, t8 _ _ hD, ix_ok rfl (by rw [List.length_map, hrn.len]; omega), ?_⟩
      refine ⟨same_over (sm.trans t8) nD0, as.set j p, es.set j (([r4 - 2] ++ e.drop 1).take m), _, _, _, _, _, rfl, ?_, ?_, by rw [List.length_set]; exact hlen, mem_set2 hve ⟨ve_drop ve (Nat.le_trans (show _ ≤ 5 by omega) (by decide)), hz3⟩⟩
      · rw [upd_same, List.map_set]
      · exact A2.set ⟨⟨pD, (sm.trans t7).free np⟩, by unfold IL; rw [upd_ne pD]; exact hp⟩ (hrn.up ((sx t8).trans SameX.put)) j
    · obtain ⟨sm, as, es, v6, v7, v8, v9, v10, rfl, hD, hrn, hlen, hve⟩ := hP
      exact ⟨.ref D, rfl, q G' D es sm nD0 (hrn.row hD) ⟨hlen, fun e he => (hve e he).1⟩ fun e he => (hve e he).2⟩
end
end K70
-- H70
namespace K70
open PySem PySem.Spec PyProof.Rows L2
section
variable {P : Program} {w : World} {K : PySem.W.Frag} {mg : Str → Option Value} {base : Heap}
/-! ### grids under way: the list of rows at g, of exact ones at x -/
def Of (B : Hp) (g x : Addr) (c : Addr) : Prop := c ≠ g ∧ c ≠ x ∧ B c = none
def SP (B : Hp) (g x : Addr) (H H' : Hp) : Prop := ∀ c o, Of B g x c → H c = some o → H' c = some o
theorem spS {B : Hp} {g x : Addr} {H H' : Hp} (s : Same H H') : SP B g x H H' := fun c o _ h => s c o h
theorem SP.trans {B : Hp} {g x : Addr} {H H1 H2 : Hp} (a : SP B g x H H1) (b : SP B g x H1 H2) : SP B g x H H2 := fun c o n h => b c o n (a c o n h)
theorem spG {B : Hp} {g x : Addr} {H : Hp} {o : HO} : SP B g x H (upd H g o) := fun c u n h => by rw [upd_ne n.1]; exact h
theorem spX {B : Hp} {g x : Addr} {H : Hp} {o : HO} : SP B g x H (upd H x o) := fun c u n h => by rw [upd_ne n.2.1]; exact h
def XR (B : Hp) (g x : Addr) (H : Hp) (v : V) (els : List (List Int)) : Prop := ∃ (b : Addr) (as : List Addr), v = .ref b ∧ Of B g x b ∧ H b = some (.lst (as.map V.ref)) ∧ A2 (fun e ns => Of B g x e ∧ IL H e ns) as els
def XG (K : PySem.W.Frag) (B : Hp) (g x : Addr) (H : Hp) (v : V) (r : Rw) : Prop := ∃ (t : Addr) (u : V), v = .ref t ∧ Of B g x t ∧ H t = some (.tup [.str (kS r.1), u]) ∧ XR B g x H u r.2
theorem XR.up {B : Hp} {g x : Addr} {H H' : Hp} {v : V} {els : List (List Int)} (h : XR B g x H v els) (s : SP B g x H H') : XR B g x H' v els := let ⟨b, as, e, n, hb, r⟩ := h; ⟨b, as, e, n, s _ _ n hb, r.mono fun _ _ z => ⟨z.1, s _ _ z.1 z.2⟩⟩
theorem XG.up {B : Hp} {g x : Addr} {H H' : Hp} {v : V} {r : Rw} (h : XG K B g x H v r) (s : SP B g x H H') : XG K B g x H' v r := let ⟨t, u, e, n, ht, r⟩ := h; ⟨t, u, e, n, s _ _ n ht, r.up s⟩
theorem XG.row {B : Hp} {g x : Addr} {H : Hp} {v : V} {r : Rw} (h : XG K B g x H v r) : RwV K H v r := let ⟨t, u, e, n, ht, b, as, eu, nb, hb, r⟩ := h; ⟨t, b, e, .inl (.inl (eu ▸ ht)), as, hb, r.mono fun _ _ z => z.2⟩
/-- a row that is new, with all that is in it -/
def RwN (K : PySem.W.Frag) (B H : Hp) (v : V) (r : Rw) : Prop := ∃ t b, v = .ref t ∧ ∀ H2, (∀ c o, B c = none → H c = some o → H2 c = some o) → SqT K H2 t [.str (kS r.1), .ref b] ∧ RowL H2 b r.2
def GRN (K : PySem.W.Frag) (B H : Hp) (g : Addr) (rs : List Rw) : Prop := B g = none ∧ ∃ xs, H g = some (.lst xs) ∧ A2 (RwN K B H) xs rs
theorem XG.rowN {B : Hp} {g x : Addr} {H : Hp} {v : V} {r : Rw} (h : XG K B g x H v r) : RwN K B H v r := let ⟨t, u, e, n, ht, b, as, eu, nb, hb, r⟩ := h; ⟨t, b, e, fun H2 sg => ⟨.inl (.inl (eu ▸ sg _ _ n.2.2 ht)), as, sg _ _ nb.2.2 hb, r.mono fun _ _ z => sg _ _ z.1.2.2 z.2⟩⟩
theorem of_new {B : Hp} {g x c : Addr} {H : Hp} (sB : Same B H) (hg : H g ≠ none) (hx : H x ≠ none) (h : H c = none) : Of B g x c := ⟨fun z => hg (z ▸ h), fun z => hx (z ▸ h), sB.free h⟩
theorem XR.of {B : Hp} {g x p : Addr} {H H' : Hp} {els : List (List Int)} (sB : Same B H) (hg : H g ≠ none) (hx : H x ≠ none) (hp : H p = none) (h : RowF H H' p els) : XR B g x H' (.ref p) els := let ⟨as, e, r⟩ := h; ⟨p, as, rfl, of_new sB hg hx hp, e, r.mono fun _ _ z => ⟨of_new sB hg hx z.1, z.2⟩⟩
theorem RowL.ofX {B : Hp} {g x : Addr} {H : Hp} {v : V} {els : List (List Int)} (h : XR B g x H v els) : ∃ b, v = .ref b ∧ RowL H b els := let ⟨b, as, e, n, hb, r⟩ := h; ⟨b, e, as, hb, r.mono fun _ _ z => z.2⟩
/-- the rows as they are drawn -/
def OKr (r : Rw) : Prop := if r.1 = true then ∀ e ∈ r.2, NZ e else ∀ e ∈ r.2, OA e
/-- the state of the loop -/
abbrev SG (a : Addr) (k : Int) (many : Nat) (g x : Addr) (sh : Int) (v6 v7 v8 v9 : Option V) : L2.St := [some (.ref a), some (.int k), some (.int (many : Nat)), some (.ref g), some (.ref x), some (.int sh), v6, v7, v8, v9]
def T3 (a : Addr) (ds : List Int) (many : Nat) : TS := fun D σ H => ∃ (k sh t : Int) (g x : Addr) (v6 v8 v9 : Option V), σ = SG a k many g x sh v6 (some (.int t)) v8 v9 ∧ IL H a ds ∧ 0 ≤ t ∧ many ≤ 16 ∧
  ∀ H' p els v9, Same H H' → H p = none → RowF H H' p els → VR many els → (∀ e ∈ els, NZ e) → D.nx (SG a k many g x sh v6 (some (.int t)) (some (.ref p)) v9) H'
def T2 (a : Addr) (ds : List Int) (many : Nat) : TS := fun D σ H => ∃ (k sh t : Int) (g x : Addr) (v6 v8 v9 : Option V) (zs : List V) (ess : List (List (List Int))) (B : Hp), σ = SG a k many g x sh v6 (some (.int t)) v8 v9 ∧ IL H a ds ∧ 0 ≤ t ∧ 0 < many ∧ many ≤ 16 ∧
  H x = some (.lst zs) ∧ A2 (XR B g x H) zs ess ∧ ess.length ≤ 16 ∧ (∀ e ∈ ess, VR many e ∧ ∀ x ∈ e, NZ x) ∧
  ∀ H' p els v9, Same H H' → H p = none → RowF H H' p els → VR many els → (∀ e ∈ els, NZ e) → D.nx (SG a k many g x sh v6 (some (.int t)) (some (.ref p)) v9) H'
def sp_law_grid (K : PySem.W.Frag) : Sp := fun vs H Q _ => ∃ (a : Addr) (ds : List Int) (k : Int) (many : Nat), vs = [.ref a, .int k, .int (many : Nat)] ∧ IL H a ds ∧ 0 ≤ k ∧ many ≤ 16 ∧ ∀ H' g rs, Same H H' → GRN K H H' g rs → VG many rs → (∀ r ∈ rs, OKr r) → Q (.ref g) H'
theorem ok_law_grid (T : Txt K mg) : FnOk P w K mg base CX0 4 T.law_grid.a T.law_grid.fd ["draws", "k", "many"] (sp_law_grid K) := by
  refine T.law_grid.F.ok sc_law_grid (fun vs H Q E h => ?_) (fun cdv A outer s H vs Q E hr h => ?_)
  · obtain ⟨a, ds, k, many, rfl, _⟩ := h
    rfl
  · obtain ⟨a, ds, k, many, rfl, ha, hk, hm, q⟩ := h
    refine ⟨_, (pss_cons (ps_set (i := 3) sc_law_grid.nd rfl (.inl rfl) (pe_lst pa_nil))
      (pss_cons (ps_set (i := 4) sc_law_grid.nd rfl (.inl rfl) (pe_lst pa_nil))
      (pss_cons (ps_set (i := 5) sc_law_grid.nd rfl (.inl rfl) (pe_call (ok_law_mix T) (hr.mono (by decide)) (by rfl) T.law_mix.g T.law_mix.F.kp T.law_mix.b .nil pass0 (pa_cons (pv 0) (pa_cons (pv 1) (pa_cons pe_int pa_nil)))))
      (pss_cons (ps_for PassesOwn.never rfl (pi_range1 (by rfl) T.m_range (pa_cons (pv 2) pa_nil)) (pg_name (i := 6) sc_law_grid.nd rfl (.inl rfl))
        (pss_cons (ps_set (i := 7) sc_law_grid.nd rfl (.inr rfl) (pe_op op_add (pe_op op_add (pv 1) pe_int) (pe_op op_mul pe_int (pv 6))))
        (pss_one (ps_if (pt_cmpR op_lt (pe_call (ok_law_mix T) (hr.mono (by decide)) (by rfl) T.law_mix.g T.law_mix.F.kp T.law_mix.b .nil pass0 (pa_cons (pv 0) (pa_cons (pv 7) (pa_cons pe_int pa_nil)))) (pv 5) (nomark _))
          (pss_cons (ps_via (t' := T2 a ds many) (ps_if (PW.pt (pw_and (pt_cmpR op_gt (pe_callB call_len_seq (by rfl) T.m_len (by decide +kernel) (pa_cons (pv 4) pa_nil)) pe_int (nomark _)) (pw_and1 (pt_cmpR op_eq (pe_call (ok_law_mix T) (hr.mono (by decide)) (by rfl) T.law_mix.g T.law_mix.F.kp T.law_mix.b .nil pass0 (pa_cons (pv 0) (pa_cons (pe_op op_add (pv 7) pe_int) (pa_cons pe_int pa_nil)))) pe_int (nomark _)))))
            (pss_one (ps_set (i := 8) sc_law_grid.nd rfl (.inl rfl) (pe_call (ok_law_likely T) (hr.mono (by decide)) (by rfl) T.law_likely.g T.law_likely.F.kp T.law_likely.b .nil pass0 (pa_cons (pv 0) (pa_cons (pe_op op_add (pv 7) pe_int) (pa_cons (pe_ix ix_list (pv 4) (pe_call (ok_law_mix T) (hr.mono (by decide)) (by rfl) T.law_mix.g T.law_mix.F.kp T.law_mix.b .nil pass0 (pa_cons (pv 0) (pa_cons (pe_op op_add (pv 7) pe_int) (pa_cons (pe_callB call_len_seq (by rfl) T.m_len (by decide +kernel) (pa_cons (pv 4) pa_nil)) pa_nil)))) (fun _ _ => rfl)) pa_nil))))))
            (pss_one (ps_via (t' := T3 a ds many) (ps_setLc (i := 8) (own := [("j", 9)]) rfl sc_law_grid.nd rfl rfl (sw_true rfl rfl rfl (by decide +kernel)) (pi_range1 (by rfl) T.m_range (pa_cons (pv 2) pa_nil)) (blkOk_by (N := ["draws", "k", "many", "grid", "exact", "share", "i", "at", "row", "j"]) (sc := defScope s_law_grid) (by decide +kernel)) (fun _ _ _ _ _ => (pg_name (i := 9) sc_law_grid.nd rfl (.inl rfl))) (fun _ _ _ _ _ => pts_nil) (fun _ _ _ _ _ => (pe_call (ok_law_element T) (hr.mono (by decide)) (by rfl) T.law_element.g T.law_element.F.kp T.law_element.b .nil pass0 (pa_cons (pv 0) (pa_cons (pe_op op_add (pe_op op_add (pv 7) pe_int) (pe_op op_mul pe_int (pv 9))) (pa_cons pe_int pa_nil)))))) ?t3))) ?t2)
          (pss_cons (ps_expr (pe_bm PySem.F.plainAttrs_list PySem.F.slot_list_append PySem.F.type_list_append mt_append (pv 4) (pa_cons (pv 8) pa_nil)))
          (pss_one (ps_expr (pe_bm PySem.F.plainAttrs_list PySem.F.slot_list_append PySem.F.type_list_append mt_append (pv 3) (pa_cons (pe_tup (pa_cons pe_str (pa_cons (pv 8) pa_nil))) pa_nil))))))
          (pss_one (ps_expr (pe_bm PySem.F.plainAttrs_list PySem.F.slot_list_append PySem.F.type_list_append mt_append (pv 3) (pa_cons (pe_tup (pa_cons pe_str (pa_cons (pe_lc (own := [("j", 9)]) rfl sc_law_grid.nd (pi_range1 (by rfl) T.m_range (pa_cons (pv 2) pa_nil)) (blkOk_by (N := ["draws", "k", "many", "grid", "exact", "share", "i", "at", "row", "j"]) (sc := defScope s_law_grid) (by decide +kernel)) (fun _ _ _ _ _ => (pg_name (i := 9) sc_law_grid.nd rfl (.inl rfl))) (fun _ _ _ _ _ => pts_nil) (fun _ _ _ _ _ => (pe_call (ok_law_orders T) (hr.mono (by decide)) (by rfl) T.law_orders.g T.law_orders.F.kp T.law_orders.b .nil pass0 (pa_cons (pv 0) (pa_cons (pe_op op_add (pe_op op_add (pv 7) pe_int) (pe_op op_mul pe_int (pv 9))) (pa_cons pe_int pa_nil)))))) pa_nil))) pa_nil))))))))
      (pss_one (ps_ret (pv 3))))))), ?_⟩
    case t3 =>
      intro D σ H h
      obtain ⟨k, sh, t, g, x, v6, v8, v9, rfl, ha, ht, hm, nx⟩ := h
      refine ⟨_, rfl, (many : Nat), rfl, by omega, by omega, fun C nC => ?_⟩
      rw [Int.toNat_natCast]
      refine lc_inv (walk_range (lo := 0) (n := many)) (fun i G ys => ∃ (as : List Addr) (es : List (List Int)), ys = as.map V.ref ∧ RN C H G as es ∧ es.length = i ∧ ∀ e ∈ es, VE e ∧ NZ e) nC (fun _ _ => trivial) (small' (by omega)) ⟨[], [], rfl, .nil, rfl, fun _ z => by cases z⟩ (fun i x G Hx ys hi sm hC hR y Qt Qf qt qf => ?_) (fun G ys sm hC hR => ?_)
      · obtain ⟨rfl, rfl⟩ := y
        obtain ⟨as, es, rfl, hrn, hlen, hve⟩ := hR
        refine ⟨rfl, .ref a, rfl, _, rfl, _, _, rfl, rfl, _, rfl, _, _, rfl, rfl, .inl ⟨by decide, by decide⟩, _, _, rfl, rfl, a, ds, _, _, rfl, ha.same sm, by omega, fun G2 p ns s2 np hp ve nz => ?_⟩
        have pC : p ≠ C := fun z => by rw [z, hC] at np; cases np
        exact qt _ _ s2 ⟨as ++ [p], es ++ [ns], by rw [List.map_append]; rfl, hrn.snoc s2 pC (sm.free np) hp, by rw [List.length_append, hlen]; rfl, ve_snoc hve ⟨ve, nz⟩⟩
      · obtain ⟨as, es, rfl, hrn, hlen, hve⟩ := hR
        exact nx G C es _ sm nC (hrn.row hC) ⟨hlen, fun e he => (hve e he).1⟩ fun e he => (hve e he).2
    case t2 =>
      intro D σ H h
      obtain ⟨k, sh, t, g, x, v6, v8, v9, zs, ess, B, rfl, ha, ht, hm0, hm, hx, hz, hl, hv, nx⟩ := h
      have els : T3 a ds many D (SG a k many g x sh v6 (some (.int t)) v8 v9) H := ⟨k, sh, t, g, x, v6, v8, v9, rfl, ha, ht, hm, nx⟩
      refine ⟨.ref x, rfl, x, _, rfl, .inl (.of hx), _, _, rfl, rfl, _, rfl, ?_⟩
      refine ite2 (fun h => ?_) (fun h => iteF els)
      have pos : 0 < ess.length := by have := of_decide_eq_true h; rw [hz.len] at this; omega
      refine ⟨.ref a, rfl, _, rfl, _, _, rfl, rfl, a, ds, _, _, rfl, ha, by omega, by decide, fun r1 p1 u1 => ⟨rfl, _, rfl, ?_⟩⟩
      refine ite2 (fun _ => ?_) (fun _ => els)
      refine ⟨.ref a, rfl, _, rfl, _, _, rfl, rfl, .ref x, rfl, .ref a, rfl, _, rfl, _, _, rfl, rfl, .ref x, rfl, x, _, rfl, .inl (.of hx), a, ds, _, _, rfl, ha, by omega, by rw [hz.len]; omega, fun r2 p2 u2 => ?_⟩
      rw [hz.len] at u2
      obtain ⟨es, he⟩ := some_at (xs := ess) (i := r2.toNat) (by omega)
      obtain ⟨v, hv2, hX⟩ := hz.get' he
      obtain ⟨b, rfl, hb⟩ := RowL.ofX hX
      have e2 : r2 = ((r2.toNat : Nat) : Int) := by omega
      refine ⟨x, _, _, _, rfl, rfl, .of hx, by rw [e2]; exact atI_nat hv2, ?_⟩
      exact ⟨a, b, ds, _, es, many, rfl, ha, by omega, hb, (hv _ (mem_at he)).1, (hv _ (mem_at he)).2, hm0, hm, fun H' p els s1 np hF vr vz => nx H' p els _ s1 np hF vr vz⟩
    refine ⟨by show 0 ≤ sizeLine; decide, fun g ng => ?_⟩
    have s0 := same_upd ng (o := .lst [])
    refine ⟨by show 0 ≤ sizeLine; decide, fun x nx => ?_⟩
    have s1 := s0.trans (same_upd nx (o := .lst []))
    have xg : x ≠ g := fun z => by rw [z, upd_same] at nx; cases nx
    have nx0 : H x = none := s0.free nx
    refine ⟨.ref a, rfl, _, rfl, a, ds, _, _, rfl, ha.same s1, hk, by decide, fun sh p0 u0 => ?_⟩
    refine ⟨_, rfl, (many : Nat), rfl, by omega, by omega, ?_⟩
    rw [Int.toNat_natCast]
    refine for_range (n := many) (lo := 0) (fun i σ G => Same H G ∧ ∃ (v6 v7 v8 v9 : Option V) (xs : List V) (rs : List Rw) (zs : List V) (ess : List (List (List Int))), σ = SG a k many g x sh v6 v7 v8 v9 ∧ G g = some (.lst xs) ∧ A2 (XG K H g x G) xs rs ∧ G x = some (.lst zs) ∧ A2 (XR H g x G) zs ess ∧ rs.length = i ∧ ess.length ≤ i ∧ (∀ r ∈ rs, VR many r.2 ∧ OKr r) ∧ (∀ e ∈ ess, VR many e ∧ ∀ x ∈ e, NZ x)) ⟨s1, none, none, none, none, [], [], [], [], rfl, by rw [upd_ne xg.symm, upd_same], .nil, upd_same, .nil, rfl, Nat.le_refl _, (fun _ z => by cases z), (fun _ z => by cases z)⟩ (fun i σ G hi hP => ?_) (fun σ G hP => ?_)
    · obtain ⟨sm, v6, v7, v8, v9, xs, rs, zs, ess, rfl, hg, hA, hx, hz, lr, le, vr, ve⟩ := hP
      have lx := hA.len
      have lz := hz.len
      have gn : G g ≠ none := by rw [hg]; exact fun z => nomatch z
      have xn : G x ≠ none := by rw [hx]; exact fun z => nomatch z
      refine ⟨_, rfl, _, _, rfl, rfl, _, rfl, _, _, rfl, rfl, .inl ⟨by decide, by decide⟩, _, _, rfl, rfl, ?_⟩
      refine ⟨.ref a, rfl, _, rfl, a, ds, _, _, rfl, ha.same sm, by omega, by decide, fun r1 p1 u1 => ⟨_, rfl, _, _, rfl, rfl, _, rfl, ?_⟩⟩
      refine ite2 (fun _ => ?_) (fun _ => ?_)
      · refine ⟨_, _, _, _, _, _, _, _, zs, ess, H, rfl, ha.same sm, by omega, by omega, hm, hx, hz, by omega, ve, fun G2 p els v9 s2 np hF vrow vz => ?_⟩
        have hXR := XR.of sm gn xn np hF
        refine ⟨.ref x, rfl, .inl ⟨rfl, _, .of (s2 _ _ hx)⟩, _, rfl, x, _, _, rfl, rfl, s2 _ _ hx, small' (by omega), ?_⟩
        have s3 : Same H (upd G2 x (.lst (zs ++ [.ref p]))) := same_over (sm.trans s2) nx0
        have u3 : SP H g x G (upd G2 x (.lst (zs ++ [.ref p]))) := (spS s2).trans spX
        have g3 : upd G2 x (.lst (zs ++ [.ref p])) g = some (.lst xs) := by rw [upd_ne xg.symm]; exact s2 _ _ hg
        have x3 : upd G2 x (.lst (zs ++ [.ref p])) x = some (.lst (zs ++ [.ref p])) := upd_same
        have hX3 := hXR.up (spX (B := H) (g := g) (x := x) (o := .lst (zs ++ [.ref p])))
        generalize upd G2 x (.lst (zs ++ [.ref p])) = G3 at s3 u3 g3 x3 hX3
        refine ⟨.ref g, rfl, .inl ⟨rfl, _, .of g3⟩, _, rfl, by show 2 ≤ sizeLine; decide, fun t nt => ?_⟩
        have s4 := same_upd nt (o := .tup [.str "exact", .ref p])
        refine ⟨g, _, _, rfl, rfl, s4 _ _ g3, small' (by omega), ?_⟩
        have u5 : SP H g x G3 (upd (upd G3 t (.tup [.str "exact", .ref p])) g (.lst (xs ++ [.ref t]))) := (spS s4).trans spG
        have tn : Of H g x t := of_new (H := G3) s3 (by rw [g3]; exact fun z => nomatch z) (by rw [x3]; exact fun z => nomatch z) nt
        refine ⟨same_over (s3.trans s4) ng, _, _, _, _, xs ++ [.ref t], rs ++ [(true, els)], zs ++ [.ref p], ess ++ [els], rfl, upd_same, A2.snoc ⟨t, .ref p, rfl, tn, by rw [upd_ne tn.1, upd_same]; rfl, hX3.up u5⟩ (hA.mono fun _ _ z => z.up (u3.trans u5)), by rw [upd_ne xg]; exact s4 _ _ x3, A2.snoc (hX3.up u5) (hz.mono fun _ _ z => z.up (u3.trans u5)), by rw [List.length_append, lr]; rfl, by rw [List.length_append]; exact Nat.succ_le_succ le, fun r hr => ?_, fun e he => ?_⟩
        · rcases List.mem_append.mp hr with z | z
          · exact vr r z
          · rw [List.mem_singleton.mp z]; exact ⟨vrow, vz⟩
        · rcases List.mem_append.mp he with z | z
          · exact ve e z
          · rw [List.mem_singleton.mp z]; exact ⟨vrow, vz⟩
      · refine ⟨.ref g, rfl, .inl ⟨rfl, _, .of hg⟩, _, rfl, (many : Nat), rfl, by omega, by omega, fun C nC => ?_⟩
        rw [Int.toNat_natCast]
        refine lc_inv (walk_range (lo := 0) (n := many)) (fun i G1 ys => ∃ (as : List Addr) (es : List (List Int)), ys = as.map V.ref ∧ RN C G G1 as es ∧ es.length = i ∧ ∀ e ∈ es, VE e ∧ OA e) nC (fun _ _ => trivial) (small' (by omega)) ⟨[], [], rfl, .nil, rfl, fun _ z => by cases z⟩ (fun i x G1 Hx ys hi sm1 hC hR y Qt Qf qt qf => ?_) (fun G1 ys sm1 hC hR => ?_)
        · obtain ⟨rfl, rfl⟩ := y
          obtain ⟨as, es, rfl, hrn, hlen, hve⟩ := hR
          refine ⟨rfl, .ref a, rfl, _, rfl, _, _, rfl, rfl, _, rfl, _, _, rfl, rfl, .inl ⟨by decide, by decide⟩, _, _, rfl, rfl, a, ds, _, _, rfl, (ha.same sm).same sm1, by omega, fun G2 p ns s2 np hp ve nz => ?_⟩
          have pC : p ≠ C := fun z => by rw [z, hC] at np; cases np
          exact qt _ _ s2 ⟨as ++ [p], es ++ [ns], by rw [List.map_append]; rfl, hrn.snoc s2 pC (sm1.free np) hp, by rw [List.length_append, hlen]; rfl, ve_snoc hve ⟨ve, nz⟩⟩
        · obtain ⟨as, es, rfl, hrn, hlen, hve⟩ := hR
          have hXR := XR.of sm gn xn nC (hrn.row hC)
          refine ⟨by show 2 ≤ sizeLine; decide, fun t nt => ?_⟩
          have s4 := same_upd nt (o := .tup [.str "sized", .ref C])
          have g3 := sm1 _ _ hg
          have x3 := sm1 _ _ hx
          refine ⟨g, _, _, rfl, rfl, s4 _ _ g3, small' (by omega), ?_⟩
          have u5 : SP H g x G1 (upd (upd G1 t (.tup [.str "sized", .ref C])) g (.lst (xs ++ [.ref t]))) := (spS s4).trans spG
          have tn : Of H g x t := of_new (H := G1) (sm.trans sm1) (by rw [g3]; exact fun z => nomatch z) (by rw [x3]; exact fun z => nomatch z) nt
          refine ⟨same_over ((sm.trans sm1).trans s4) ng, _, _, _, _, xs ++ [.ref t], rs ++ [(false, es)], zs, ess, rfl, upd_same, A2.snoc ⟨t, .ref C, rfl, tn, by rw [upd_ne tn.1, upd_same]; rfl, hXR.up u5⟩ (hA.mono fun _ _ z => z.up ((spS sm1).trans u5)), by rw [upd_ne xg]; exact s4 _ _ x3, (hz.mono fun _ _ z => z.up ((spS sm1).trans u5)), by rw [List.length_append, lr]; rfl, by omega, fun r hr => ?_, ve⟩
          rcases List.mem_append.mp hr with z | z
          · exact vr r z
          · rw [List.mem_singleton.mp z]; exact ⟨⟨hlen, fun e he => (hve e he).1⟩, fun e he => (hve e he).2⟩
    · obtain ⟨sm, v6, v7, v8, v9, xs, rs, zs, ess, rfl, hg, hA, hx, hz, lr, le, vr, ve⟩ := hP
      exact ⟨.ref g, rfl, q G g rs sm ⟨ng, xs, hg, hA.mono fun _ _ z => z.rowN⟩ ⟨lr, fun r hr => (vr r hr).1⟩ fun r hr => (vr r hr).2⟩
end
end K70
-- P70
namespace K70
open PySem PySem.Spec PyProof.Rows L2
section
variable {P : Program} {w : World} {K : PySem.W.Frag} {mg : Str → Option Value} {base : Heap}
/-! ### the errors -/
theorem len_app (a b : Str) : (a ++ b).length = a.length + b.length := by
  show (a.cps ++ b.cps).size = a.cps.size + b.cps.size
  exact Array.size_append
theorem small2 {x : Nat} (h : x ≤ 2000) : x ≤ sizeLine := Nat.le_trans h (by decide)
def sp_wording : Sp := fun vs H Q _ => ∃ (nm : Str) (i : Int), vs = [.str nm, .int i] ∧ nm.length ≤ 1000 ∧ i.natAbs < 10 ^ 12 ∧ ∀ t : Str, Q (.str t) H
theorem ok_wording (T : Txt K mg) : FnOk P w K mg base CX0 1 T.wording.a T.wording.fd ["name", "at"] sp_wording := by
  refine T.wording.F.ok sc_wording (fun vs H Q E h => ?_) (fun cdv A outer s H vs Q E hr h => ?_)
  · obtain ⟨nm, i, rfl, _⟩ := h
    rfl
  · obtain ⟨nm, i, rfl, hn, h1, q⟩ := h
    refine ⟨_, (pss_cons (ps_if (pt_cmpR op_gt (pe_bits (pv 1)) pe_int (nomark _))
        (pss_one (ps_ret (pe_joined (.cons (pe_fmt (pv 0)) (.cons pe_str (.cons (pe_fmt (pe_bits (pv 1))) (.cons pe_str .nil)))))))
        pss_nil)
      (pss_one (ps_ret (pe_joined (.cons (pe_fmt (pv 0)) (.cons pe_str (.cons (pe_fmt (pv 1)) .nil))))))), ?_⟩
    have e : i.natAbs < 2 ^ 40 := Nat.lt_of_lt_of_le h1 (by decide)
    have hb := LX.bits_le e
    refine ⟨_, rfl, i, rfl, _, _, rfl, rfl, _, rfl, ?_⟩
    rw [decide_eq_false (by omega)]
    have lt : (Str.ofString (toString i)).length ≤ 13 := LX.text_len (by decide) h1
    refine iteF ⟨_, rfl, .inl ⟨nm, rfl, small2 (by omega), nm, rfl, ?_, _, rfl, ?_, _, rfl, .inr ⟨i, rfl, ?_, _, rfl, ?_, q _⟩⟩⟩
    · rw [len_app]; exact small2 (by show 0 + _ ≤ _; omega)
    · rw [len_app, len_app]; exact small2 (by show 0 + _ + 4 ≤ _; omega)
    · exact Nat.lt_of_lt_of_le (PySem.Flt.log2_lt_of (by decide) e) (by decide)
    · rw [len_app, len_app, len_app]; exact small2 (by show 0 + _ + 4 + _ ≤ _; omega)
theorem ok_init (T : Txt K mg) (X : Errs K mg) : FnOk P w K mg base CX0 2 X.e0.f X.e0.fd ["self", "at"] (LX.sp_init K) := by
  refine X.e0.F.ok sc_init (fun vs H Q E h => ?_) (fun cdv A outer s H vs Q E hr h => ?_)
  · obtain ⟨e, C, nm, i, rfl, _⟩ := h
    rfl
  · obtain ⟨e, C, nm, i, rfl, he, hn, ho, na, h1, q⟩ := h
    refine ⟨_, pss_cons (ps_expr (pe_veinit (by rfl) X.e0.mV X.e0.vV (pa_cons (pv 0) (pa_cons (pe_call (ok_wording T) (hr.mono (by decide)) (by rfl) T.wording.g T.wording.F.kp T.wording.b .nil pass0 (pa_cons (LX.pe_cn (pv 0)) (pa_cons (pv 1) pa_nil))) pa_nil))))
      (pss_one (ps_ost (pv 0) (pv 1))), ?_⟩
    refine ⟨.ref e, rfl, .ref e, rfl, e, C, nm, rfl, he, hn, _, rfl, nm, i, rfl, hn.sz, h1, fun t => ⟨e, C, _, rfl, by show 1 ≤ 1000; decide, ho, he, ?_⟩⟩
    exact ⟨_, rfl, .ref e, rfl, e, C, rfl, ho, na, .inl ⟨he, fun d hd ne => q d hd ne⟩⟩
end
end K70
-- R70
namespace K70
open PySem PySem.Spec PyProof.Rows L2
/-! ### tables, and grids with other rows -/
abbrev Tb := List (List (List Int))
def TbR (H : Hp) (p : Addr) (tab : Tb) : Prop := ∃ as : List Addr, H p = some (.lst (as.map V.ref)) ∧ A2 (RowL H) as tab
theorem TbR.lk {H H' : Hp} {p : Addr} {tab : Tb} (s : Lk H H') (h : TbR H p tab) : TbR H' p tab := let ⟨as, e, r⟩ := h; ⟨as, s.lst e, r.mono fun _ _ z => z.lk s⟩
theorem fold_take {α β : Type} (f : β → α → β) (b : β) {xs : List α} {i : Nat} {x : α} (h : xs[i]? = some x) : (xs.take (i + 1)).foldl f b = f ((xs.take i).foldl f b) x := by
  rw [take_snoc h, List.foldl_append]; rfl
def exs (rs : List Rw) : Tb := rs.filterMap fun r => if r.1 = true then some r.2 else none
theorem str_ex (b : Bool) : decide (V.str (kS b) = V.str "exact") = b := by
  cases b <;> decide +kernel
section
variable {P : Program} {w : World} {K : PySem.W.Frag} {mg : Str → Option Value} {base : Heap}
theorem RowL.seq {H : Hp} {a : Addr} {row : List (List Int)} (h : RowL H a row) : ∃ xs : List V, SqL K H a xs ∧ xs.length = row.length := let ⟨as, e, r⟩ := h; ⟨_, .of e, by rw [List.length_map, r.len]⟩
def sp_is_exact (K : PySem.W.Frag) : Sp := fun vs H Q _ => ∃ (v : V) (r : Rw), vs = [v] ∧ RwV K H v r ∧ Q (.bl r.1) H
theorem ok_is_exact (T : Txt K mg) : FnOk P w K mg base CX0 1 T.is_exact.a T.is_exact.fd ["told"] (sp_is_exact K) := by
  refine T.is_exact.F.ok sc_is_exact (fun vs H Q E h => ?_) (fun cdv A outer s H vs Q E hr h => ?_)
  · obtain ⟨v, r, rfl, _⟩ := h
    rfl
  · obtain ⟨v, r, rfl, ⟨t, b, rfl, ht, hb⟩, q⟩ := h
    refine ⟨_, (pss_one (ps_ret (pe_cmpR op_eq (pe_ix ix_tup (pv 0) pe_int (fun _ _ => rfl)) pe_str (nomark _)))), ?_⟩
    refine ⟨.ref t, rfl, t, _, _, _, rfl, rfl, ht, rfl, rfl, ?_⟩
    rw [str_ex]
    exact q
theorem same_x {D : Addr} {H G0 G : Hp} (s : Same H G0) (x : SameX D G0 G) (n : H D = none) : Same H G := fun c o h => x c o (fun z => by rw [z, n] at h; cases h) (s c o h)
/-- the rows of a new table -/
def TRow (D : Addr) (H0 H : Hp) (v : V) (row : List (List Int)) : Prop := ∃ (a : Addr) (as : List Addr), v = .ref a ∧ (a ≠ D ∧ H0 a = none) ∧ H a = some (.lst (as.map V.ref)) ∧ RN D H0 H as row
theorem TRow.up {D : Addr} {H0 H H' : Hp} {v : V} {row : List (List Int)} (s : SameX D H H') (h : TRow D H0 H v row) : TRow D H0 H' v row := let ⟨a, as, e, n, ha, r⟩ := h; ⟨a, as, e, n, s _ _ n.1 ha, r.up s⟩
theorem TRow.rowL {D : Addr} {H0 H : Hp} {v : V} {row : List (List Int)} (z : TRow D H0 H v row) : ∃ a, v = V.ref a ∧ RowL H a row := let ⟨a, as, e, _, ha, r⟩ := z; ⟨a, e, as, ha, r.mono fun _ _ y => y.2⟩
theorem TbR.of {D : Addr} {H0 H : Hp} {ys : List V} {tab : Tb} (hD : H D = some (.lst ys)) (h : A2 (TRow D H0 H) ys tab) : TbR H D tab := by
  obtain ⟨as, rfl, r⟩ := a2_ref (h.mono fun v row (z : TRow D H0 H v row) => z.rowL)
  exact ⟨as, hD, r⟩
def sp_exact_rows (K : PySem.W.Frag) : Sp := fun vs H Q _ => ∃ (g : Addr) (rs : List Rw), vs = [.ref g] ∧ GR K H g rs ∧ rs.length ≤ 16 ∧ (∀ r ∈ rs, r.2.length ≤ 16) ∧ ∀ H' p ys, Same H H' → H p = none → H' p = some (.lst ys) → A2 (TRow p H H') ys (exs rs) → Q (.ref p) H'
theorem ok_exact_rows (T : Txt K mg) : FnOk P w K mg base CX0 1 T.exact_rows.a T.exact_rows.fd ["grid"] (sp_exact_rows K) := by
  refine T.exact_rows.F.ok sc_exact_rows (fun vs H Q E h => ?_) (fun cdv A outer s H vs Q E hr h => ?_)
  · obtain ⟨g, rs, rfl, _⟩ := h
    rfl
  · obtain ⟨g, rs, rfl, hg, hl, hr16, q⟩ := h
    obtain ⟨xs, hx, hA⟩ := hg
    have lx := hA.len
    refine ⟨_, (pss_one (ps_ret (pe_lc (own := [("kind", 1), ("row", 2)]) (g := gTup K 2 (gCons (gName 1) (gCons (gName 2) gNil))) rfl sc_exact_rows.nd (pi_list (pv 0)) (blkOk_by (N := ["grid", "kind", "row", "one"]) (sc := defScope s_exact_rows) (by decide +kernel)) (fun _ _ _ _ _ => (pg_tup rfl (pgs_cons (pg_name (i := 1) sc_exact_rows.nd rfl (.inl rfl)) (pgs_cons (pg_name (i := 2) sc_exact_rows.nd rfl (.inl rfl)) pgs_nil)))) (fun _ _ _ _ _ => (pts_one (pt_cmpR op_eq (pv 1) pe_str (nomark _)))) (fun _ _ _ _ _ => (pe_lc (wi := iList K _) (own := [("one", 3)]) rfl sc_exact_rows.nd (pi_list (pv 2)) (blkOk_by (N := ["grid", "kind", "row", "one"]) (sc := { kind := .function, names := [(".0", .local), ("kind", .local), ("row", .local)], isGenerator := false, isCoroutine := false, more := [] }) (by decide +kernel)) (fun _ _ _ _ _ => (pg_name (i := 3) sc_exact_rows.nd rfl (.inl rfl))) (fun _ _ _ _ _ => pts_nil) (fun _ _ _ _ _ => (pe_callTy (T := "list") (r := rListC K) call_listC (by rfl) T.m_list (by decide +kernel) (pa_cons (pv 3) pa_nil)))))))), ?_⟩
    refine ⟨.ref g, rfl, g, rfl, ⟨_, .of hx⟩, fun D nD => ?_⟩
    refine lc_fm (walk_list (xs := xs)) rs (fun r => if r.1 = true then some r.2 else none) (TRow D H) (fun _ _ _ _ s h => h.up s) lx.symm nD (fun H' s => s.seq (.of hx)) (small' (by omega)) (fun i x H' Hx ys r hr2 sm hD y Qt Qf qt qf => ?_) (fun G ys sm hD hR => ?_)
    · obtain ⟨rfl, hxi⟩ := y
      obtain ⟨r', hr', hV⟩ := hA.get hxi
      obtain rfl := Option.some.inj (hr2.symm.trans hr')
      obtain ⟨t, b, rfl, ht, as, hb, hE⟩ := hV.lk (K70.lk sm)
      have la := hE.len
      have l16 := hr16 r (mem_at hr2)
      refine ⟨t, _, rfl, ht, rfl, _, _, rfl, _, _, rfl, rfl, rfl, _, rfl, rfl, _, rfl, ?_⟩
      rw [str_ex]
      cases e : r.1 with
      | false => exact iteF (qf (by rw [e]; rfl) _ (Same.refl _))
      | true =>
        refine iteT ⟨.ref b, rfl, b, rfl, ⟨_, .of hb⟩, fun D2 nD2 => ?_⟩
        refine lc_inv (walk_list (xs := as.map V.ref)) (fun i G ys => ∃ cs : List Addr, ys = cs.map V.ref ∧ RN D2 Hx G cs (r.2.take i)) nD2 (fun H' s => s.seq (.of hb)) (small' (by rw [List.length_map]; omega)) ⟨[], rfl, .nil⟩ (fun i2 x2 G2 Hx2 ys2 hi2 sm2 hD2 hR2 y2 Qt2 Qf2 qt2 qf2 => ?_) (fun G2 ys2 sm2 hD2 hR2 => ?_)
        · obtain ⟨rfl, hx2⟩ := y2
          obtain ⟨c, hc, rfl⟩ := row_ref hx2
          obtain ⟨el, he, hI⟩ := hE.get hc
          obtain ⟨cs, rfl, hrn⟩ := hR2
          refine ⟨rfl, .ref c, rfl, c, _, rfl, .inl (hI.same sm2).sq, fun n nn => ?_⟩
          have s1 := same_upd nn (o := .lst (el.map V.int))
          have nD3 : n ≠ D2 := fun z => by rw [z, hD2] at nn; cases nn
          refine qt2 _ _ s1 ⟨cs ++ [n], by rw [List.map_append]; rfl, ?_⟩
          rw [take_snoc he]
          exact hrn.snoc s1 nD3 (sm2.free nn) upd_same
        · obtain ⟨cs, rfl, hrn⟩ := hR2
          rw [List.take_of_length_le (by rw [List.length_map]; omega)] at hrn
          have off : ∀ {c : Addr}, Hx c = none → c ≠ D := fun {c} z y => by rw [y, hD] at z; cases z
          exact qt _ _ r.2 (by rw [e]; rfl) sm2 ⟨D2, cs, rfl, ⟨off nD2, sm.free nD2⟩, hD2, hrn.mono fun _ _ z => ⟨⟨off z.1.2, sm.free z.1.2⟩, z.2⟩⟩
    · exact q G D ys sm nD hD hR
end
end K70
-- Q70
namespace K70
open PySem PySem.Spec PyProof.Rows L2
open QF (low sg gc)
/-! ### fractions in the heap -/
/-- a fraction stands at a -/
def PR (H : Hp) (a : Addr) (r : Int × Int) : Prop := H a = some (.tup [V.int r.1, V.int r.2])
/-- a list of fractions stands at p -/
def PL (H : Hp) (p : Addr) (rs : List (Int × Int)) : Prop := ∃ as : List Addr, H p = some (.lst (as.map V.ref)) ∧ A2 (PR H) as rs
theorem PR.same {H H' : Hp} {a : Addr} {r : Int × Int} (s : Same H H') (h : PR H a r) : PR H' a r := s _ _ h
theorem PR.lk {H H' : Hp} {a : Addr} {r : Int × Int} (s : Lk H H') (h : PR H a r) : PR H' a r := s.tup h
theorem PR.sq {K : PySem.W.Frag} {H : Hp} {a : Addr} {r : Int × Int} (h : PR H a r) : SqT K H a [V.int r.1, V.int r.2] := .of h
theorem PL.same {H H' : Hp} {p : Addr} {rs : List (Int × Int)} (s : Same H H') (h : PL H p rs) : PL H' p rs := let ⟨as, a, b⟩ := h; ⟨as, s _ _ a, b.mono fun _ _ z => z.same s⟩
theorem PL.lk {H H' : Hp} {p : Addr} {rs : List (Int × Int)} (s : Lk H H') (h : PL H p rs) : PL H' p rs := let ⟨as, a, b⟩ := h; ⟨as, s.lst a, b.mono fun _ _ z => z.lk s⟩
/-- the fraction of two numbers, a new pair -/
def OutP (H : Hp) (Q : VK) (n d : Int) : Prop := ∀ p, H p = none → Q (.ref p) (upd H p (.tup [.int (low n d).1, .int (low n d).2]))
theorem div_ok {n d : Int} (h : d ≠ 0) (hd : d.natAbs < 2 ^ 8990) : LX.CDivWN n (sg n d) ∧ LX.CDivWN d (sg n d) := by
  have h1 := QF.sg_ne (n := n) h
  have h2 := Nat.lt_of_le_of_lt (QF.sg_le (n := n) h) hd
  have h3 : (sg n d).natAbs.log2 < 9000 := Nat.lt_trans (log_lt h2 (by decide)) (by decide)
  exact ⟨⟨h1, h3⟩, ⟨h1, h3⟩⟩
/-- right sides of the drawn size -/
def Rr (r : Int × Int) : Prop := r.1.natAbs ≤ 10 ^ 7 ∧ 0 < r.2 ∧ r.2.natAbs ≤ 10 ^ 7
def belowR (rs : List (Int × Int)) : Int := QF.below (rs.map (·.2))
theorem belowR_facts {rs : List (Int × Int)} (h : ∀ r ∈ rs, Rr r) : 0 < belowR rs ∧ (belowR rs).natAbs ≤ (10 ^ 7) ^ rs.length ∧ ∀ r ∈ rs, ∃ k, belowR rs = k * r.2 := by
  obtain ⟨a, b, c⟩ := QF.below_facts (B := 10 ^ 7) rs.length (rs.map (·.2)) (by rw [List.length_map]) (fun d hd => by
    obtain ⟨r, hr, rfl⟩ := List.mem_map.mp hd
    exact (h r hr).2)
  exact ⟨a, b, fun r hr => c _ (List.mem_map.mpr ⟨r, hr, rfl⟩)⟩
section
variable {P : Program} {w : World} {K : PySem.W.Frag} {mg : Str → Option Value} {base : Heap} {Ps : List Addr}
def sp_lowest : Sp := fun vs H Q _ => ∃ n d : Int, vs = [.int n, .int d] ∧ d ≠ 0 ∧ d.natAbs < 2 ^ 8990 ∧ OutP H Q n d
theorem ok_lowest (T : Txt K mg) : FnOk P w K mg base CX0 1 T.lowest.a T.lowest.fd ["n", "d"] sp_lowest := by
  refine T.lowest.F.ok sc_lowest (fun vs H Q E h => ?_) (fun cdv A outer s H vs Q E hr h => ?_)
  · obtain ⟨n, d, rfl, _⟩ := h
    rfl
  · obtain ⟨n, d, rfl, h0, hd, q⟩ := h
    refine ⟨_, (pss_cons (ps_set (i := 2) sc_lowest.nd rfl (.inl rfl) (pe_callBfun cr_gcd (by rfl) T.x_gcd (pa_cons (pv 0) (pa_cons (pv 1) pa_nil))))
      (pss_cons (ps_if (pt_cmpR op_lt (pv 1) pe_int (nomark _))
        (pss_one (ps_set (i := 2) sc_lowest.nd rfl (.inl rfl) (pe_un un_neg (pv 2))))
        pss_nil)
      (pss_one (ps_ret (pe_tup (pa_cons (pe_op LX.op_fdivWN (pv 0) (pv 2)) (pa_cons (pe_op LX.op_fdivWN (pv 1) (pv 2)) pa_nil))))))), ?_⟩
    obtain ⟨c1, c2⟩ := div_ok (n := n) h0 hd
    have q' := q
    unfold OutP low at q'
    unfold sg at c1 c2 q'
    refine ⟨_, rfl, _, rfl, n, d, rfl, _, rfl, _, _, rfl, rfl, _, rfl, ?_⟩
    refine ite2 (fun h => ?_) (fun h => ?_)
    · have hlt : d < 0 := of_decide_eq_true h
      simp only [if_pos hlt] at c1 c2 q'
      exact ⟨_, rfl, _, rfl, _, rfl, _, rfl, _, _, rfl, rfl, c1, _, rfl, _, rfl, _, _, rfl, rfl, c2, by show 2 ≤ sizeLine; decide, q'⟩
    · have hlt : ¬ d < 0 := fun z => h (decide_eq_true z)
      simp only [if_neg hlt] at c1 c2 q'
      exact ⟨_, rfl, _, rfl, _, _, rfl, rfl, c1, _, rfl, _, rfl, _, _, rfl, rfl, c2, by show 2 ≤ sizeLine; decide, q'⟩
def sp_common_below : Sp := fun vs H Q _ => ∃ (p : Addr) (rs : List (Int × Int)), vs = [.ref p] ∧ PL H p rs ∧ rs.length ≤ 210 ∧ (∀ r ∈ rs, Rr r) ∧ Q (.int (belowR rs)) H
theorem ok_common_below (T : Txt K mg) : FnOk P w K mg base CX0 1 T.common_below.a T.common_below.fd ["many"] sp_common_below := by
  refine T.common_below.F.ok sc_common_below (fun vs H Q E h => ?_) (fun cdv A outer s H vs Q E hr h => ?_)
  · obtain ⟨p, rs, rfl, _⟩ := h
    rfl
  · obtain ⟨p, rs, rfl, hp, hl, hr2, q⟩ := h
    refine ⟨_, (pss_cons (ps_set (i := 1) sc_common_below.nd rfl (.inl rfl) pe_int)
      (pss_cons (ps_for PassesOwn.never rfl (pi_list (pv 0)) (pg_tup rfl (pgs_cons (pg_name (i := 2) sc_common_below.nd rfl (.inl rfl)) (pgs_cons (pg_name (i := 3) sc_common_below.nd rfl (.inl rfl)) pgs_nil)))
        (pss_one (ps_set (i := 1) sc_common_below.nd rfl (.inl rfl) (pe_callBfun LM.cr_lcm (by rfl) T.x_lcm (pa_cons (pv 1) (pa_cons (pv 3) pa_nil))))))
      (pss_one (ps_ret (pv 1))))), ?_⟩
    obtain ⟨as, ha, hA⟩ := id hp
    have el := hA.len
    refine ⟨.ref p, rfl, p, rfl, ⟨_, .of ha⟩, ?_⟩
    refine for_it (walk_list (xs := as.map V.ref)) (fun i σ G => G = H ∧ ∃ x2 x3 : Option V, σ = [some (.ref p), some (.int (belowR (rs.take i))), x2, x3]) ⟨rfl, _, _, rfl⟩ (fun i σ G _ hP => by rw [hP.1]; exact .of ha) (fun i x σ G G' hi hP yy => ?_) (fun σ G hP => ?_)
    · obtain ⟨rfl, x2, x3, rfl⟩ := hP
      obtain ⟨rfl, hx⟩ := yy
      rw [List.getElem?_map] at hx
      cases e : as[i]? with
      | none => rw [e] at hx; cases hx
      | some a =>
        rw [e] at hx
        cases hx
        obtain ⟨r, er, hra⟩ := hA.get e
        refine ⟨a, _, rfl, hra.sq, rfl, _, _, rfl, _, _, rfl, rfl, ?_⟩
        have b1 := (belowR_facts (rs := rs.take i) fun r hr => hr2 r (List.mem_of_mem_take hr)).2.1
        have b2 := hr2 r (List.mem_of_getElem? er)
        have b3 : (10 ^ 7) ^ (rs.take i).length ≤ (10 ^ 7) ^ 210 := Nat.pow_le_pow_right (by decide) (by rw [List.length_take]; omega)
        have e4 : (rs.map (·.2))[i]? = some r.2 := by rw [List.getElem?_map, er]; rfl
        have key : belowR (rs.take (i + 1)) = ((Nat.lcm (belowR (rs.take i)).natAbs r.2.natAbs : Nat) : Int) := by
          unfold belowR
          rw [List.map_take, List.map_take, QF.below_take e4]
        refine ⟨_, rfl, _, rfl, _, _, rfl, Nat.lt_of_le_of_lt (Nat.le_trans b1 b3) (by decide +kernel), Nat.lt_of_le_of_lt b2.2.2 (by decide +kernel), rfl, some (.int r.1), some (.int r.2), ?_⟩
        rw [key]
        rfl
    · obtain ⟨rfl, x2, x3, rfl⟩ := hP
      rw [List.length_map, el, List.take_length]
      exact ⟨_, rfl, q⟩
/-- the right sides as whole numbers -/
def wholeR (rs : List (Int × Int)) (b : Int) : List Int := rs.map fun r => r.1 * (b / r.2)
def sp_whole : Sp := fun vs H Q _ => ∃ (p : Addr) (rs : List (Int × Int)) (b : Int), vs = [.ref p, .int b] ∧ PL H p rs ∧ rs.length ≤ 210 ∧ (∀ r ∈ rs, Rr r) ∧ b.natAbs < 2 ^ 6000 ∧ ∀ H' q, Same H H' → H q = none → IL H' q (wholeR rs b) → Q (.ref q) H'
theorem ok_whole (T : Txt K mg) : FnOk P w K mg base CX0 1 T.whole.a T.whole.fd ["many", "below"] sp_whole := by
  refine T.whole.F.ok sc_whole (fun vs H Q E h => ?_) (fun cdv A outer s H vs Q E hr h => ?_)
  · obtain ⟨p, rs, b, rfl, _⟩ := h
    rfl
  · obtain ⟨p, rs, b, rfl, hp, hl, hr2, hb, q⟩ := h
    refine ⟨_, (pss_one (ps_ret (pe_lc (own := [("n", 2), ("d", 3)]) (g := gTup K 2 (gCons (gName 2) (gCons (gName 3) gNil))) rfl sc_whole.nd (pi_list (pv 0)) (blkOk_by (N := ["many", "below", "n", "d"]) (sc := defScope s_whole) (by decide +kernel)) (fun _ _ _ _ _ => (pg_tup rfl (pgs_cons (pg_name (i := 2) sc_whole.nd rfl (.inl rfl)) (pgs_cons (pg_name (i := 3) sc_whole.nd rfl (.inl rfl)) pgs_nil)))) (fun _ _ _ _ _ => pts_nil) (fun _ _ _ _ _ => (pe_op op_mulW (pv 2) (pe_op op_fdivW (pv 1) (pv 3))))))), ?_⟩
    obtain ⟨as, ha, hA⟩ := id hp
    have el := hA.len
    refine ⟨.ref p, rfl, p, rfl, ⟨_, .of ha⟩, fun D nD => ?_⟩
    refine lc_inv (walk_list (xs := as.map V.ref)) (fun i G ys => ys = (wholeR (rs.take i) b).map V.int) nD (fun G s => .of (s _ _ ha)) (small' (by rw [List.length_map]; omega)) rfl (fun i y G Hx ys hi sm hD hR yy Qt Qf qt qf => ?_) (fun G ys sm hD hR => ?_)
    · obtain ⟨rfl, hx⟩ := yy
      have hx2 : (as.map V.ref)[i]? = some y := hx
      rw [List.getElem?_map] at hx2
      cases e : as[i]? with
      | none => rw [e] at hx2; cases hx2
      | some a =>
        rw [e] at hx2
        cases hx2
        obtain ⟨r, er, hra⟩ := hA.get e
        have b2 := hr2 r (List.mem_of_getElem? er)
        have l1 : r.1.natAbs.log2 < 6000 := log_lt (Nat.lt_of_le_of_lt b2.1 (by decide +kernel)) (by decide)
        have l2 : (b / r.2).natAbs.log2 < 6000 := log_lt (Nat.lt_of_le_of_lt (Int.natAbs_ediv_le_natAbs _ _) hb) (by decide)
        refine ⟨a, _, rfl, (hra.same sm).sq, rfl, _, _, rfl, _, _, rfl, rfl, rfl, _, rfl, _, rfl, _, rfl, _, _, rfl, rfl, ⟨b2.2.1, Nat.lt_trans (log_lt (Nat.lt_of_le_of_lt b2.2.2 (by decide +kernel : 10 ^ 7 < 2 ^ 24)) (by decide)) (by decide)⟩, _, _, rfl, rfl, (by show _ + _ < 1000000; omega), ?_⟩
        refine qt _ _ (Same.refl _) ?_
        rw [hR]
        unfold wholeR
        rw [take_snoc er, List.map_append, List.map_append]
        rfl
    · rw [List.length_map, el, List.take_length] at hR
      subst hR
      exact q G D sm nD hD
end
end K70
-- I70
set_option exponentiation.threshold 300

namespace K70
open PySem PySem.Spec PyProof.Rows L2
open QF (low sg gc)
theorem menu3 {x y z r : Int} (h0 : 0 ≤ r) (h1 : r < 3) : ∃ t, atI [V.int x, V.int y, V.int z] r = some (.int t) ∧ (t = x ∨ t = y ∨ t = z) := by
  obtain rfl | rfl | rfl : r = 0 ∨ r = 1 ∨ r = 2 := by omega
  · exact ⟨x, rfl, .inl rfl⟩
  · exact ⟨y, rfl, .inr (.inl rfl)⟩
  · exact ⟨z, rfl, .inr (.inr rfl)⟩
theorem menu2 {x y r : Int} (h0 : 0 ≤ r) (h1 : r < 2) : ∃ t, atI [V.int x, V.int y] r = some (.int t) ∧ (t = x ∨ t = y) := by
  obtain rfl | rfl : r = 0 ∨ r = 1 := by omega
  · exact ⟨x, rfl, .inl rfl⟩
  · exact ⟨y, rfl, .inr rfl⟩
section
variable {P : Program} {w : World} {K : PySem.W.Frag} {mg : Str → Option Value} {base : Heap}
def sp_law_common : Sp := fun vs H Q _ => ∃ n d : Int, vs = [.int n, .int d] ∧ n.natAbs * d.natAbs < 2 ^ 19990 ∧ Q (.int (gc n d)) H
theorem abs_is (n : Int) : (if n < 0 then -n else n) = ((n.natAbs : Nat) : Int) := by split <;> omega
theorem ok_law_common (T : Txt K mg) : FnOk P w K mg base CX0 1 T.law_common.a T.law_common.fd ["one", "two"] sp_law_common := by
  refine T.law_common.F.ok sc_law_common (fun vs H Q E h => ?_) (fun cdv A outer s H vs Q E hr h => ?_)
  · obtain ⟨n, d, rfl, _⟩ := h
    rfl
  · obtain ⟨n, d, rfl, hn, q⟩ := h
    refine ⟨_, (pss_cons (ps_set (i := 0) sc_law_common.nd rfl (.inl rfl) (pe_callB call_abs (by rfl) T.m_abs (by decide +kernel) (pa_cons (pv 0) pa_nil)))
      (pss_cons (ps_set (i := 1) sc_law_common.nd rfl (.inl rfl) (pe_callB call_abs (by rfl) T.m_abs (by decide +kernel) (pa_cons (pv 1) pa_nil)))
      (pss_cons (ps_for PassesOwn.never rfl (pi_range1 (by rfl) T.m_range (pa_cons pe_int pa_nil)) (pg_name (i := 2) sc_law_common.nd rfl (.inl rfl))
        (pss_cons (ps_if (pt_cmpR op_eq (pv 1) pe_int (nomark _))
          (pss_one (ps_ret (pv 0)))
          pss_nil)
        (pss_cons (ps_set (i := 3) sc_law_common.nd rfl (.inl rfl) (pe_op op_mod (pe_callTy call_int1 (by rfl) T.m_int (by decide +kernel) (pa_cons (pv 0) pa_nil)) (pv 1)))
        (pss_cons (ps_set (i := 0) sc_law_common.nd rfl (.inl rfl) (pv 1))
        (pss_one (ps_set (i := 1) sc_law_common.nd rfl (.inl rfl) (pv 3)))))))
      (pss_one (ps_ret (pv 0)))))), ?_⟩
    refine ⟨_, rfl, _, rfl, _, rfl, _, rfl, ?_⟩
    rw [abs_is, abs_is]
    refine ⟨20000, rfl, by decide, by decide, ?_⟩
    refine for_range (n := 20000) (lo := 0) (fun i σ H' => H' = H ∧ ∃ (x y : Nat) (v2 v3 : Option V), σ = [some (.int (x : Int)), some (.int (y : Int)), v2, v3] ∧ Nat.gcd x y = Nat.gcd n.natAbs d.natAbs ∧ QF.Euc (n.natAbs * d.natAbs) i x y) ⟨rfl, n.natAbs, d.natAbs, none, none, rfl, rfl, .inl ⟨rfl, Nat.le_refl _⟩⟩ (fun i σ H' hi hP => ?_) (fun σ H' hP => ?_)
    · obtain ⟨rfl, x, y, v2, v3, rfl, hg, he⟩ := hP
      refine ⟨_, rfl, rfl, _, rfl, ?_⟩
      refine ite2 (fun h => ?_) (fun h => ?_)
      · have hy : y = 0 := by have := V.int.inj (of_decide_eq_true h); omega
        subst hy
        rw [Nat.gcd_zero_right] at hg
        refine ⟨_, rfl, ?_⟩
        rw [hg]
        exact q
      · have hy : y ≠ 0 := fun z => h (by rw [z]; rfl)
        refine ⟨_, rfl, .inl ⟨_, rfl, _, rfl, _, _, rfl, rfl, (by show (0 : Int) < _; omega), ?_⟩⟩
        exact ⟨_, rfl, _, rfl, rfl, y, x % y, some (.int (0 + (i : Int))), some (.int ((x : Int) % (y : Int))), rfl, (QF.gcd_turn x y).trans hg, QF.euc_step he hy⟩
    · obtain ⟨rfl, x, y, v2, v3, rfl, hg, he⟩ := hP
      have hy := QF.euc_end he (by decide) (Nat.lt_trans hn (Nat.pow_lt_pow_right (by decide) (by decide)))
      subst hy
      rw [Nat.gcd_zero_right] at hg
      refine ⟨_, rfl, ?_⟩
      rw [hg]
      exact q
def sp_law_ratio : Sp := fun vs H Q _ => ∃ n d : Int, vs = [.int n, .int d] ∧ d ≠ 0 ∧ d.natAbs < 2 ^ 8990 ∧ n.natAbs * d.natAbs < 2 ^ 19990 ∧ OutP H Q n d
theorem ok_law_ratio (T : Txt K mg) : FnOk P w K mg base CX0 2 T.law_ratio.a T.law_ratio.fd ["n", "d"] sp_law_ratio := by
  refine T.law_ratio.F.ok sc_law_ratio (fun vs H Q E h => ?_) (fun cdv A outer s H vs Q E hr h => ?_)
  · obtain ⟨n, d, rfl, _⟩ := h
    rfl
  · obtain ⟨n, d, rfl, h0, hd, hn, q⟩ := h
    refine ⟨_, (pss_cons (ps_set (i := 2) sc_law_ratio.nd rfl (.inl rfl) (pe_call (ok_law_common T) (hr.mono (by decide)) (by rfl) T.law_common.g T.law_common.F.kp T.law_common.b .nil pass0 (pa_cons (pv 0) (pa_cons (pv 1) pa_nil))))
      (pss_cons (ps_if (pt_cmpR op_lt (pv 1) pe_int (nomark _))
        (pss_one (ps_set (i := 2) sc_law_ratio.nd rfl (.inl rfl) (pe_un un_neg (pv 2))))
        pss_nil)
      (pss_one (ps_ret (pe_tup (pa_cons (pe_op LX.op_fdivWN (pv 0) (pv 2)) (pa_cons (pe_op LX.op_fdivWN (pv 1) (pv 2)) pa_nil))))))), ?_⟩
    obtain ⟨c1, c2⟩ := div_ok (n := n) h0 hd
    have q' := q
    unfold OutP low at q'
    unfold sg at c1 c2 q'
    refine ⟨_, rfl, _, rfl, n, d, rfl, hn, _, rfl, _, _, rfl, rfl, _, rfl, ?_⟩
    refine ite2 (fun h => ?_) (fun h => ?_)
    · have hlt : d < 0 := of_decide_eq_true h
      simp only [if_pos hlt] at c1 c2 q'
      exact ⟨_, rfl, _, rfl, _, rfl, _, rfl, _, _, rfl, rfl, c1, _, rfl, _, rfl, _, _, rfl, rfl, c2, by show 2 ≤ sizeLine; decide, q'⟩
    · have hlt : ¬ d < 0 := fun z => h (decide_eq_true z)
      simp only [if_neg hlt] at c1 c2 q'
      exact ⟨_, rfl, _, rfl, _, _, rfl, rfl, c1, _, rfl, _, rfl, _, _, rfl, rfl, c2, by show 2 ≤ sizeLine; decide, q'⟩
theorem at0 {x y : V} : atI [x, y] 0 = some x := rfl
theorem at1 {x y : V} : atI [x, y] 1 = some y := rfl
theorem mul_lt {a b : Int} {p q r : Nat} (ha : a.natAbs < 2 ^ p) (hb : b.natAbs < 2 ^ q) (h : p + q ≤ r) : (a * b).natAbs < 2 ^ r := by
  rw [Int.natAbs_mul]
  refine Nat.lt_of_lt_of_le (Nat.mul_lt_mul'' ha hb) ?_
  rw [← Nat.pow_add]
  exact Nat.pow_le_pow_right (by decide) h
theorem cm_lt {a b : Int} {p q : Nat} (ha : a.natAbs < 2 ^ p) (hb : b.natAbs < 2 ^ q) (hp : 0 < p) (hq : 0 < q) (h : p + q < 1000000) : CMulW a b := by
  have := log_lt ha hp
  have := log_lt hb hq
  show _ + _ < 1000000
  omega
/-- two fractions of the size that comes up -/
structure Two (n d m e : Int) : Prop where
  d0 : d ≠ 0
  e0 : e ≠ 0
  hn : n.natAbs < 2 ^ 5200
  hd : d.natAbs < 2 ^ 4900
  hm : m.natAbs < 2 ^ 200
  he : e.natAbs < 2 ^ 30
def sp_law_two (K : PySem.W.Frag) (f : Int → Int → Int → Int → Int) : Sp := fun vs H Q _ => ∃ (a b : Addr) (n d m e : Int), vs = [.ref a, .ref b] ∧ SqT K H a [.int n, .int d] ∧ SqT K H b [.int m, .int e] ∧ Two n d m e ∧ OutP H Q (f n d m e) (d * e)
theorem ok_law_add (T : Txt K mg) : FnOk P w K mg base CX0 3 T.law_add.a T.law_add.fd ["one", "two"] (sp_law_two K fun n d m e => n * e + m * d) := by
  refine T.law_add.F.ok sc_law_add (fun vs H Q E h => ?_) (fun cdv A outer s H vs Q E hr h => ?_)
  · obtain ⟨a, b, n, d, m, e, rfl, _⟩ := h
    rfl
  · obtain ⟨a, b, n, d, m, e, rfl, ha, hb, t, q⟩ := h
    refine ⟨_, (pss_one (ps_ret (pe_call (ok_law_ratio T) (hr.mono (by decide)) (by rfl) T.law_ratio.g T.law_ratio.F.kp T.law_ratio.b .nil pass0 (pa_cons (pe_op op_add (pe_op op_mulW (pe_ix ix_tup (pv 0) pe_int (fun _ _ => rfl)) (pe_ix ix_tup (pv 1) pe_int (fun _ _ => rfl))) (pe_op op_mulW (pe_ix ix_tup (pv 1) pe_int (fun _ _ => rfl)) (pe_ix ix_tup (pv 0) pe_int (fun _ _ => rfl)))) (pa_cons (pe_op op_mulW (pe_ix ix_tup (pv 0) pe_int (fun _ _ => rfl)) (pe_ix ix_tup (pv 1) pe_int (fun _ _ => rfl))) pa_nil))))), ?_⟩
    have b1 := cm_lt t.hn t.he (by decide) (by decide) (by decide)
    have b2 := cm_lt t.hm t.hd (by decide) (by decide) (by decide)
    have b3 := cm_lt t.hd t.he (by decide) (by decide) (by decide)
    have l1 := mul_lt t.hn t.he (r := 5230) (by decide)
    have l2 := mul_lt t.hm t.hd (r := 5230) (by decide)
    have l3 := mul_lt t.hd t.he (r := 4930) (by decide)
    have l4 : (n * e + m * d).natAbs < 2 ^ 5231 := by
      have := Int.natAbs_add_le (n * e) (m * d)
      have e2 : (2 : Nat) ^ 5231 = 2 ^ 5230 + 2 ^ 5230 := by rw [Nat.pow_succ 2 5230, Nat.mul_two]
      rw [e2]
      generalize (2 : Nat) ^ 5230 = y at *
      omega
    refine ⟨_, rfl, a, _, _, _, rfl, rfl, ha, at0, _, rfl, b, _, _, _, rfl, rfl, hb, at1, _, _, rfl, rfl, b1,
      _, rfl, b, _, _, _, rfl, rfl, hb, at0, _, rfl, a, _, _, _, rfl, rfl, ha, at1, _, _, rfl, rfl, b2, _, _, rfl, rfl,
      _, rfl, a, _, _, _, rfl, rfl, ha, at1, _, rfl, b, _, _, _, rfl, rfl, hb, at1, _, _, rfl, rfl, b3, _, _, rfl, Int.mul_ne_zero t.d0 t.e0, Nat.lt_trans l3 (Nat.pow_lt_pow_right (by decide) (by decide)), ?_, q⟩
    refine Nat.lt_of_lt_of_le (Nat.mul_lt_mul'' l4 l3) ?_
    rw [← Nat.pow_add]
    exact Nat.pow_le_pow_right (by decide) (by decide)
theorem ok_law_multiply (T : Txt K mg) : FnOk P w K mg base CX0 3 T.law_multiply.a T.law_multiply.fd ["one", "two"] (sp_law_two K fun n d m e => n * m) := by
  refine T.law_multiply.F.ok sc_law_multiply (fun vs H Q E h => ?_) (fun cdv A outer s H vs Q E hr h => ?_)
  · obtain ⟨a, b, n, d, m, e, rfl, _⟩ := h
    rfl
  · obtain ⟨a, b, n, d, m, e, rfl, ha, hb, t, q⟩ := h
    refine ⟨_, (pss_one (ps_ret (pe_call (ok_law_ratio T) (hr.mono (by decide)) (by rfl) T.law_ratio.g T.law_ratio.F.kp T.law_ratio.b .nil pass0 (pa_cons (pe_op op_mulW (pe_ix ix_tup (pv 0) pe_int (fun _ _ => rfl)) (pe_ix ix_tup (pv 1) pe_int (fun _ _ => rfl))) (pa_cons (pe_op op_mulW (pe_ix ix_tup (pv 0) pe_int (fun _ _ => rfl)) (pe_ix ix_tup (pv 1) pe_int (fun _ _ => rfl))) pa_nil))))), ?_⟩
    have b1 := cm_lt t.hn t.hm (by decide) (by decide) (by decide)
    have b3 := cm_lt t.hd t.he (by decide) (by decide) (by decide)
    have l1 := mul_lt t.hn t.hm (r := 5400) (by decide)
    have l3 := mul_lt t.hd t.he (r := 4930) (by decide)
    refine ⟨_, rfl, a, _, _, _, rfl, rfl, ha, at0, _, rfl, b, _, _, _, rfl, rfl, hb, at0, _, _, rfl, rfl, b1,
      _, rfl, a, _, _, _, rfl, rfl, ha, at1, _, rfl, b, _, _, _, rfl, rfl, hb, at1, _, _, rfl, rfl, b3, _, _, rfl, Int.mul_ne_zero t.d0 t.e0, Nat.lt_trans l3 (Nat.pow_lt_pow_right (by decide) (by decide)), ?_, q⟩
    refine Nat.lt_of_lt_of_le (Nat.mul_lt_mul'' l1 l3) ?_
    rw [← Nat.pow_add]
    exact Nat.pow_le_pow_right (by decide) (by decide)
def sp_law_drawn_ratio : Sp := fun vs H Q _ => ∃ (a : Addr) (ds : List Int) (k : Int), vs = [.ref a, .int k] ∧ IL H a ds ∧ 0 ≤ k ∧ ∀ H' o n d, Same H H' → H' o = none → n.natAbs ≤ 10 ^ 6 → 0 < d → d ≤ 10 ^ 6 → Q (.ref o) (upd H' o (.tup [.int (low n d).1, .int (low n d).2]))
theorem ok_law_drawn_ratio (T : Txt K mg) : FnOk P w K mg base CX0 3 T.law_drawn_ratio.a T.law_drawn_ratio.fd ["draws", "k"] sp_law_drawn_ratio := by
  refine T.law_drawn_ratio.F.ok sc_law_drawn_ratio (fun vs H Q E h => ?_) (fun cdv A outer s H vs Q E hr h => ?_)
  · obtain ⟨a, ds, k, rfl, _⟩ := h
    rfl
  · obtain ⟨a, ds, k, rfl, ha, hk, q⟩ := h
    refine ⟨_, (pss_cons (ps_set (i := 2) sc_law_drawn_ratio.nd rfl (.inl rfl) (pe_ix ix_list (pe_lst (pa_cons pe_int (pa_cons pe_int (pa_cons pe_int pa_nil)))) (pe_call (ok_law_mix T) (hr.mono (by decide)) (by rfl) T.law_mix.g T.law_mix.F.kp T.law_mix.b .nil pass0 (pa_cons (pv 0) (pa_cons (pv 1) (pa_cons pe_int pa_nil)))) (fun _ _ => rfl)))
      (pss_cons (ps_set (i := 3) sc_law_drawn_ratio.nd rfl (.inl rfl) (pe_op op_sub (pe_call (ok_law_mix T) (hr.mono (by decide)) (by rfl) T.law_mix.g T.law_mix.F.kp T.law_mix.b .nil pass0 (pa_cons (pv 0) (pa_cons (pe_op op_add (pv 1) pe_int) (pa_cons (pe_op op_add (pe_op op_mul pe_int (pv 2)) pe_int) pa_nil)))) (pv 2)))
      (pss_one (ps_ret (pe_call (ok_law_ratio T) (hr.mono (by decide)) (by rfl) T.law_ratio.g T.law_ratio.F.kp T.law_ratio.b .nil pass0 (pa_cons (pv 3) (pa_cons (pe_op op_add pe_int (pe_call (ok_law_mix T) (hr.mono (by decide)) (by rfl) T.law_mix.g T.law_mix.F.kp T.law_mix.b .nil pass0 (pa_cons (pv 0) (pa_cons (pe_op op_add (pv 1) pe_int) (pa_cons (pe_ix ix_list (pe_lst (pa_cons pe_int (pa_cons (pv 2) pa_nil))) (pe_call (ok_law_mix T) (hr.mono (by decide)) (by rfl) T.law_mix.g T.law_mix.F.kp T.law_mix.b .nil pass0 (pa_cons (pv 0) (pa_cons (pe_op op_add (pv 1) pe_int) (pa_cons pe_int pa_nil)))) (fun _ _ => rfl)) pa_nil))))) pa_nil))))))), ?_⟩
    refine ⟨by show 3 ≤ sizeLine; decide, fun p hp => ?_⟩
    have s0 := same_upd (o := .lst [.int 3, .int 20, .int 1000000]) hp
    refine ⟨.ref a, rfl, _, rfl, a, ds, k, 3, rfl, ha.same s0, hk, by decide, fun r hr0 hr1 => ?_⟩
    obtain ⟨t, ht, hb⟩ := menu3 (x := 3) (y := 20) (z := 1000000) hr0 hr1
    refine ⟨p, _, _, _, rfl, rfl, SqL.of upd_same, ht, ?_⟩
    refine ⟨.ref a, rfl, _, rfl, _, _, rfl, rfl, _, rfl, _, _, rfl, rfl, .inl ⟨by decide, by decide⟩, _, _, rfl, rfl, a, ds, _, _, rfl, ha.same s0, by omega, by omega, fun x hx0 hx1 => ?_⟩
    refine ⟨_, rfl, _, _, rfl, rfl, ?_⟩
    refine ⟨_, rfl, .ref a, rfl, _, rfl, _, _, rfl, rfl, _, rfl, by show 2 ≤ sizeLine; decide, fun p2 hp2 => ?_⟩
    have s1 := s0.trans (same_upd (o := .lst [.int 2, .int t]) hp2)
    refine ⟨.ref a, rfl, _, rfl, _, _, rfl, rfl, a, ds, _, 2, rfl, ha.same s1, by omega, by decide, fun r2 hr2 hr3 => ?_⟩
    obtain ⟨t2, ht2, hb2⟩ := menu2 (x := 2) (y := t) hr2 hr3
    refine ⟨p2, _, _, _, rfl, rfl, SqL.of upd_same, ht2, a, ds, _, t2, rfl, ha.same s1, by omega, by omega, fun d hd0 hd1 => ?_⟩
    refine ⟨_, _, rfl, rfl, _, _, rfl, by omega, ?_, ?_, fun o ho => q _ o _ _ s1 ho (by omega) (by omega) (by omega)⟩
    · exact Nat.lt_of_lt_of_le (show (1 + d).natAbs < 2 ^ 30 by omega) (Nat.pow_le_pow_right (by decide) (by decide))
    · refine Nat.lt_of_lt_of_le (Nat.mul_lt_mul'' (show (x - t).natAbs < 2 ^ 30 by omega) (show (1 + d).natAbs < 2 ^ 30 by omega)) ?_
      rw [← Nat.pow_add]
      exact Nat.pow_le_pow_right (by decide) (by decide)
end
end K70
-- C70
set_option exponentiation.threshold 30000

namespace K70
open PySem PySem.Spec PyProof.Rows L2
open QF (low sg gc)
/-! ### sums of fractions -/
abbrev Fr := Int × Int
def acc (t : Fr) (f : Int × Fr) : Fr := low (t.1 * (low (f.1 * f.2.1) (1 * f.2.2)).2 + (low (f.1 * f.2.1) (1 * f.2.2)).1 * t.2) (t.2 * (low (f.1 * f.2.1) (1 * f.2.2)).2)
def fsum (ts : List (Int × Fr)) : Fr := ts.foldl acc (0, 1)
def tops (B : Int) (ts : List (Int × Fr)) : Int := (ts.map fun t => t.1 * (t.2.1 * (B / t.2.2))).sum
theorem acc_is {B S f n d : Int} (hB : 0 < B) (hd : 0 < d) (k : ∃ k, B = k * d) : acc (low S B) (f, (n, d)) = low (S + f * (n * (B / d))) B := by
  obtain ⟨k, rfl⟩ := k
  have e1 : k * d / d = k := Int.mul_ediv_cancel k (by omega)
  unfold acc
  rw [Int.one_mul, e1]
  rw [QF.low_add (a := S) (D := k * d) (b := f * n) (E := d) (by omega) (by omega)]
  refine QF.low_eq (Int.mul_ne_zero (by omega) (by omega)) (by omega) ?_
  grind
theorem fold_is {B : Int} (hB : 0 < B) : ∀ (ts : List (Int × Fr)) (S : Int), (∀ t ∈ ts, 0 < t.2.2 ∧ ∃ k, B = k * t.2.2) → ts.foldl acc (low S B) = low (S + tops B ts) B
  | [], S, _ => by show low S B = low (S + 0) B; rw [Int.add_zero]
  | t :: r, S, h => by
    obtain ⟨h1, h2⟩ := h t List.mem_cons_self
    show r.foldl acc (acc (low S B) (t.1, (t.2.1, t.2.2))) = _
    rw [acc_is hB h1 h2, fold_is hB r _ fun x hx => h x (List.mem_cons_of_mem _ hx)]
    unfold tops
    rw [List.map_cons, List.sum_cons, Int.add_assoc]
theorem fsum_is {B : Int} {ts : List (Int × Fr)} (hB : 0 < B) (h : ∀ t ∈ ts, 0 < t.2.2 ∧ ∃ k, B = k * t.2.2) : fsum ts = low (tops B ts) B := by
  have e : low 0 B = (0, 1) := by
    rw [← QF.low_one 0]
    exact QF.low_eq (by omega) (by decide) (by omega)
  unfold fsum
  rw [← e, fold_is hB ts 0 h, Int.zero_add]
/-- terms of the size that comes up -/
def Ft (t : Int × Fr) : Prop := t.1.natAbs ≤ 10 ^ 30 ∧ Rr t.2
def ftB (ts : List (Int × Fr)) : Int := belowR (ts.map (·.2))
theorem ft_den {ts : List (Int × Fr)} (h : ∀ t ∈ ts, Ft t) : 0 < ftB ts ∧ (ftB ts).natAbs ≤ (10 ^ 7) ^ ts.length ∧ ∀ t ∈ ts, 0 < t.2.2 ∧ ∃ k, ftB ts = k * t.2.2 := by
  obtain ⟨a, b, c⟩ := belowR_facts (rs := ts.map (·.2)) fun r hr => by
    obtain ⟨t, ht, rfl⟩ := List.mem_map.mp hr
    exact (h t ht).2
  rw [List.length_map] at b
  exact ⟨a, b, fun t ht => ⟨(h t ht).2.2.1, c _ (List.mem_map_of_mem ht)⟩⟩
theorem tops_le {B : Int} : ∀ {ts : List (Int × Fr)}, (∀ t ∈ ts, Ft t) → (tops B ts).natAbs ≤ ts.length * (10 ^ 30 * (10 ^ 7 * B.natAbs))
  | [], _ => Nat.zero_le _
  | t :: r, h => by
    have ih := tops_le (B := B) (ts := r) fun x hx => h x (List.mem_cons_of_mem _ hx)
    obtain ⟨h1, h2, _⟩ := h t List.mem_cons_self
    have e : (t.1 * (t.2.1 * (B / t.2.2))).natAbs ≤ 10 ^ 30 * (10 ^ 7 * B.natAbs) := by
      rw [Int.natAbs_mul, Int.natAbs_mul]
      exact Nat.mul_le_mul h1 (Nat.mul_le_mul h2 (Int.natAbs_ediv_le_natAbs _ _))
    have e2 := Int.natAbs_add_le (t.1 * (t.2.1 * (B / t.2.2))) (tops B r)
    have e3 : tops B (t :: r) = t.1 * (t.2.1 * (B / t.2.2)) + tops B r := by unfold tops; rw [List.map_cons, List.sum_cons]
    rw [e3, List.length_cons, Nat.succ_mul]
    omega
theorem pow7 {n : Nat} (h : n ≤ 208) : (10 ^ 7) ^ n ≤ (10 ^ 7) ^ 208 := Nat.pow_le_pow_right (by decide) h
theorem fsum_facts {ts : List (Int × Fr)} (h : ∀ t ∈ ts, Ft t) (l : ts.length ≤ 208) : (fsum ts).1.natAbs < 2 ^ 5200 ∧ 0 < (fsum ts).2 ∧ (fsum ts).2.natAbs < 2 ^ 4900 ∧ low (fsum ts).1 (fsum ts).2 = fsum ts := by
  obtain ⟨a, b, c⟩ := ft_den h
  rw [fsum_is a c]
  have d := QF.low_abs (n := tops (ftB ts) ts) (show ftB ts ≠ 0 by omega)
  obtain ⟨_, _, _, _, pos, _⟩ := QF.low_is (n := tops (ftB ts) ts) (show ftB ts ≠ 0 by omega)
  have b2 := Nat.le_trans b (pow7 l)
  refine ⟨Nat.lt_of_le_of_lt d.1 (Nat.lt_of_le_of_lt (tops_le h) ?_), pos, Nat.lt_of_le_of_lt d.2 (Nat.lt_of_le_of_lt b2 (by decide +kernel)), QF.low_low (by omega)⟩
  refine Nat.lt_of_le_of_lt (Nat.mul_le_mul l (Nat.mul_le_mul_left _ (Nat.mul_le_mul_left _ b2))) ?_
  decide +kernel
/-- a list of terms, each a number and a fraction -/
def TR (H : Hp) (a : Addr) (t : Int × Fr) : Prop := ∃ b, H a = some (.tup [.int t.1, .ref b]) ∧ PR H b t.2
def TL (H : Hp) (p : Addr) (ts : List (Int × Fr)) : Prop := ∃ as : List Addr, H p = some (.lst (as.map V.ref)) ∧ A2 (TR H) as ts
theorem TR.same {H H' : Hp} {a : Addr} {t : Int × Fr} (s : Same H H') (h : TR H a t) : TR H' a t := let ⟨b, x, y⟩ := h; ⟨b, s _ _ x, y.same s⟩
theorem TL.same {H H' : Hp} {p : Addr} {ts : List (Int × Fr)} (s : Same H H') (h : TL H p ts) : TL H' p ts := let ⟨as, a, b⟩ := h; ⟨as, s _ _ a, b.mono fun _ _ z => z.same s⟩
theorem ref_at {as : List Addr} {i : Nat} {y : V} (h : (as.map V.ref)[i]? = some y) : ∃ a, as[i]? = some a ∧ y = .ref a := by
  rw [List.getElem?_map] at h
  cases e : as[i]? with
  | none => rw [e] at h; cases h
  | some a => rw [e] at h; exact ⟨a, rfl, (Option.some.inj h).symm⟩
section
variable {P : Program} {w : World} {K : PySem.W.Frag} {mg : Str → Option Value} {base : Heap}
def sp_combined : Sp := fun vs H Q _ => ∃ (p : Addr) (ts : List (Int × Fr)), vs = [.ref p] ∧ TL H p ts ∧ ts.length ≤ 208 ∧ (∀ t ∈ ts, Ft t) ∧ ∀ H' o, Same H H' → PR H' o (fsum ts) → Q (.ref o) H'
theorem ok_combined (T : Txt K mg) : FnOk P w K mg base CX0 2 T.combined.a T.combined.fd ["terms"] sp_combined := by
  refine T.combined.F.ok sc_combined (fun vs H Q E h => ?_) (fun cdv A outer s H vs Q E hr h => ?_)
  · obtain ⟨p, ts, rfl, _⟩ := h
    rfl
  · obtain ⟨p, ts, rfl, ⟨as, hp, hA⟩, hl, hF, q⟩ := h
    refine ⟨_, (pss_cons (ps_set (i := 1) sc_combined.nd rfl (.inl rfl) (pe_call (ok_common_below T) (hr.mono (by decide)) (by rfl) T.common_below.g T.common_below.F.kp T.common_below.b .nil pass0 (pa_cons (pe_lc (own := [("_", 3), ("value", 4)]) (g := gTup K 2 (gCons (gName 3) (gCons (gName 4) gNil))) rfl sc_combined.nd (pi_list (pv 0)) (blkOk_by (N := ["terms", "below", "numbers", "_", "value", "number", "factor"]) (sc := defScope s_combined) (by decide +kernel)) (fun _ _ _ _ _ => (pg_tup rfl (pgs_cons (pg_name (i := 3) sc_combined.nd rfl (.inl rfl)) (pgs_cons (pg_name (i := 4) sc_combined.nd rfl (.inl rfl)) pgs_nil)))) (fun _ _ _ _ _ => pts_nil) (fun _ _ _ _ _ => (pv 4))) pa_nil)))
      (pss_cons (ps_set (i := 2) sc_combined.nd rfl (.inl rfl) (pe_call (ok_whole T) (hr.mono (by decide)) (by rfl) T.whole.g T.whole.F.kp T.whole.b .nil pass0 (pa_cons (pe_lc (own := [("_", 3), ("value", 4)]) (g := gTup K 2 (gCons (gName 3) (gCons (gName 4) gNil))) rfl sc_combined.nd (pi_list (pv 0)) (blkOk_by (N := ["terms", "below", "numbers", "_", "value", "number", "factor"]) (sc := defScope s_combined) (by decide +kernel)) (fun _ _ _ _ _ => (pg_tup rfl (pgs_cons (pg_name (i := 3) sc_combined.nd rfl (.inl rfl)) (pgs_cons (pg_name (i := 4) sc_combined.nd rfl (.inl rfl)) pgs_nil)))) (fun _ _ _ _ _ => pts_nil) (fun _ _ _ _ _ => (pv 4))) (pa_cons (pv 1) pa_nil))))
      (pss_one (ps_ret (pe_call (ok_lowest T) (hr.mono (by decide)) (by rfl) T.lowest.g T.lowest.F.kp T.lowest.b .nil pass0 (pa_cons (pe_callB (cr_sum rfl) (by rfl) T.m_sum (by decide +kernel) (pa_cons (pe_lc (own := [("number", 5), ("factor", 6), ("_", 3)]) (g := gTup K 2 (gCons (gTup K 2 (gCons (gName 6) (gCons (gName 3) gNil))) (gCons (gName 5) gNil))) rfl sc_combined.nd (pi_zip (by rfl) T.m_zip (pa_cons (pv 0) (pa_cons (pv 2) pa_nil))) (blkOk_by (N := ["terms", "below", "numbers", "_", "value", "number", "factor"]) (sc := defScope s_combined) (by decide +kernel)) (fun _ _ _ _ _ => (pg_tup rfl (pgs_cons (pg_tup rfl (pgs_cons (pg_name (i := 6) sc_combined.nd rfl (.inl rfl)) (pgs_cons (pg_name (i := 3) sc_combined.nd rfl (.inl rfl)) pgs_nil))) (pgs_cons (pg_name (i := 5) sc_combined.nd rfl (.inl rfl)) pgs_nil)))) (fun _ _ _ _ _ => pts_nil) (fun _ _ _ _ _ => (pe_op op_mulW (pv 6) (pv 5)))) pa_nil)) (pa_cons (pv 1) pa_nil))))))), ?_⟩
    have la := hA.len
    obtain ⟨dB, dL, dd⟩ := ft_den hF
    have rr : ∀ r ∈ ts.map (·.2), Rr r := fun r hr2 => by
      obtain ⟨t, ht, rfl⟩ := List.mem_map.mp hr2
      exact (hF t ht).2
    refine ⟨.ref p, rfl, p, rfl, ⟨_, .of hp⟩, fun D nD => ?_⟩
    refine lc_inv (walk_list (xs := as.map V.ref)) (fun i G ys => ∃ bs : List Addr, ys = bs.map V.ref ∧ A2 (PR H) bs ((ts.take i).map (·.2))) nD (fun G s => .of (s _ _ hp)) (small' (by rw [List.length_map]; omega)) ⟨[], rfl, .nil⟩ (fun i y G Hx ys hi sm hD hR yy Qt Qf qt qf => ?_) (fun G ys sm hD hR => ?_)
    · obtain ⟨rfl, hx⟩ := yy
      obtain ⟨a, ea, rfl⟩ := ref_at hx
      obtain ⟨t, et, b, hb, hv⟩ := hA.get ea
      obtain ⟨bs, rfl, hB⟩ := hR
      refine ⟨a, _, rfl, .of (sm _ _ hb), rfl, _, _, rfl, _, _, rfl, rfl, rfl, _, rfl, qt _ _ (Same.refl _) ⟨bs ++ [b], by rw [List.map_append]; rfl, ?_⟩⟩
      rw [take_snoc et, List.map_append]
      exact A2.snoc hv hB
    · obtain ⟨bs, rfl, hB⟩ := hR
      rw [List.length_map, la, List.take_length] at hB
      have hPL : PL G D (ts.map (·.2)) := ⟨bs, hD, hB.mono fun _ _ z => z.same sm⟩
      have B6 : (belowR (ts.map (·.2))).natAbs < 2 ^ 6000 := Nat.lt_of_le_of_lt (Nat.le_trans dL (pow7 hl)) (by decide +kernel)
      refine ⟨D, _, rfl, hPL, by rw [List.length_map]; omega, rr, ?_⟩
      have hp1 := sm _ _ hp
      have hA1 := hA.mono fun _ _ z => z.same sm
      refine ⟨.ref p, rfl, p, rfl, ⟨_, .of hp1⟩, fun D2 nD2 => ?_⟩
      refine lc_inv (walk_list (xs := as.map V.ref)) (fun i G2 ys => ∃ bs : List Addr, ys = bs.map V.ref ∧ A2 (PR G) bs ((ts.take i).map (·.2))) nD2 (fun G s => .of (s _ _ hp1)) (small' (by rw [List.length_map]; omega)) ⟨[], rfl, .nil⟩ (fun i y G2 Hx ys hi sm2 hD2 hR2 yy Qt Qf qt qf => ?_) (fun G2 ys sm2 hD2 hR2 => ?_)
      · obtain ⟨rfl, hx⟩ := yy
        obtain ⟨a, ea, rfl⟩ := ref_at hx
        obtain ⟨t, et, b, hb, hv⟩ := hA1.get ea
        obtain ⟨bs, rfl, hB⟩ := hR2
        refine ⟨a, _, rfl, .of (sm2 _ _ hb), rfl, _, _, rfl, _, _, rfl, rfl, rfl, _, rfl, qt _ _ (Same.refl _) ⟨bs ++ [b], by rw [List.map_append]; rfl, ?_⟩⟩
        rw [take_snoc et, List.map_append]
        exact A2.snoc hv hB
      · obtain ⟨bs2, rfl, hB2⟩ := hR2
        rw [List.length_map, la, List.take_length] at hB2
        have hPL2 : PL G2 D2 (ts.map (·.2)) := ⟨bs2, hD2, hB2.mono fun _ _ z => z.same sm2⟩
        refine ⟨_, rfl, D2, _, _, rfl, hPL2, by rw [List.length_map]; omega, rr, B6, fun H3 q3 s3 n3 h3 => ?_⟩
        have sm3 := sm.trans (sm2.trans s3)
        have hp3 := sm3 _ _ hp
        have hA3 := hA.mono fun _ _ z => z.same sm3
        have l3 : (wholeR (ts.map (·.2)) (belowR (ts.map (·.2)))).length = ts.length := by unfold wholeR; rw [List.length_map, List.length_map]
        obtain ⟨ws, ews⟩ : ∃ ws, ws = wholeR (ts.map (·.2)) (belowR (ts.map (·.2))) := ⟨_, rfl⟩
        rw [← ews] at h3 l3
        refine ⟨_, rfl, _, rfl, p, q3, as.map V.ref, _, rfl, .of hp3, h3.sq, fun D3 nD3 => ?_⟩
        refine lc_inv (walk_zip (K := K) (a := p) (b := q3) (xs := as.map V.ref) (ys := ws.map V.int) (n := ts.length) (by rw [List.length_map, List.length_map, l3]; omega)) (fun i G ys => ys = ((ts.take i).map fun t => t.1 * (t.2.1 * (belowR (ts.map (·.2)) / t.2.2))).map V.int) nD3 (fun G s => ⟨.of (s _ _ hp3), .of (s _ _ h3)⟩) (small' (by omega)) rfl (fun i y G4 Hx ys hi sm4 hD4 hR4 yy Qt Qf qt qf => ?_) (fun G4 ys sm4 hD4 hR4 => ?_)
        · obtain ⟨T', x', y', rfl, nT, rfl, hx, hy⟩ := yy
          obtain ⟨a, ea, rfl⟩ := ref_at hx
          obtain ⟨t, et, b, hb, hv⟩ := hA3.get ea
          have hw : ws[i]? = some (t.2.1 * (belowR (ts.map (·.2)) / t.2.2)) := by
            rw [ews]
            unfold wholeR
            rw [List.getElem?_map, List.getElem?_map, et]; rfl
          have hy : (ws.map V.int)[i]? = some y' := hy
          rw [List.getElem?_map, hw] at hy
          obtain rfl := Option.some.inj hy
          have sT := same_upd nT (o := .tup [.ref a, .int (t.2.1 * (belowR (ts.map (·.2)) / t.2.2))])
          have ft := hF t (mem_at et)
          have l1 : t.1.natAbs.log2 < 6000 := log_lt (Nat.lt_of_le_of_lt ft.1 (by decide +kernel)) (by decide)
          have l2 : (t.2.1 * (belowR (ts.map (·.2)) / t.2.2)).natAbs.log2 < 7000 := log_lt (by
            rw [Int.natAbs_mul]
            refine Nat.lt_of_le_of_lt (Nat.mul_le_mul ft.2.1 (Nat.le_trans (Int.natAbs_ediv_le_natAbs _ _) (Nat.le_of_lt B6))) ?_
            decide +kernel) (by decide)
          refine ⟨T', _, rfl, .of upd_same, rfl, _, _, rfl, a, _, rfl, .of (sT _ _ (sm4 _ _ hb)), rfl, _, _, rfl, _, _, rfl, rfl, _, _, rfl, rfl, rfl, _, rfl, _, rfl, _, _, rfl, rfl, (by show _ + _ < 1000000; omega), ?_⟩
          refine qt _ _ sT ?_
          rw [hR4, take_snoc et, List.map_append, List.map_append]
          rfl
        · rw [List.take_length] at hR4
          subst hR4
          refine ⟨D3, _, rfl, .of hD4, ?_⟩
          refine ⟨_, rfl, _, _, rfl, by show ftB ts ≠ 0; omega, Nat.lt_trans B6 (Nat.pow_lt_pow_right (by decide) (by decide)), fun o no => q _ o (sm3.trans (sm4.trans (same_upd no))) ?_⟩
          rw [fsum_is dB dd]
          exact upd_same
end
end K70
-- T70
namespace K70
open PySem PySem.Spec PyProof.Rows L2
open QF (low sg gc)
/-! ### the terms of a row -/
def LL (H : Hp) (p : Addr) (L : List (List Fr)) : Prop := ∃ as : List Addr, H p = some (.lst (as.map V.ref)) ∧ A2 (PL H) as L
theorem LL.same {H H' : Hp} {p : Addr} {L : List (List Fr)} (s : Same H H') (h : LL H p L) : LL H' p L := let ⟨as, a, b⟩ := h; ⟨as, s _ _ a, b.mono fun _ _ z => z.same s⟩
theorem LL.lk {H H' : Hp} {p : Addr} {L : List (List Fr)} (s : Lk H H') (h : LL H p L) : LL H' p L := let ⟨as, a, b⟩ := h; ⟨as, s.lst a, b.mono fun _ _ z => z.lk s⟩
def tmE (one : List Int) (vs : List Fr) (e n : Nat) : List (Int × Fr) := (List.range n).filterMap fun k => if cf one k = 0 then none else some (cf one k, vs.getD (k + e) (0, 1))
def tms (row : List (List Int)) (L : List (List Fr)) (e n : Nat) : List (Int × Fr) := (List.range n).flatMap fun j => tmE (row.getD j []) (L.getD j []) e (row.getD j []).length
theorem tmE_no {one : List Int} {vs : List Fr} {e n : Nat} (h : cf one n = 0) : tmE one vs e (n + 1) = tmE one vs e n := by
  unfold tmE
  rw [List.range_succ, List.filterMap_append]
  rw [show List.filterMap (fun k => if cf one k = 0 then none else some (cf one k, vs.getD (k + e) (0, 1))) [n] = [] by rw [List.filterMap_cons, if_pos h]; rfl, List.append_nil]
theorem tmE_yes {one : List Int} {vs : List Fr} {e n : Nat} (h : cf one n ≠ 0) : tmE one vs e (n + 1) = tmE one vs e n ++ [(cf one n, vs.getD (n + e) (0, 1))] := by
  unfold tmE
  rw [List.range_succ, List.filterMap_append]
  congr 1
  rw [List.filterMap_cons, if_neg h]; rfl
theorem tms_snoc {row : List (List Int)} {L : List (List Fr)} {e n : Nat} : tms row L e (n + 1) = tms row L e n ++ tmE (row.getD n []) (L.getD n []) e (row.getD n []).length := by
  unfold tms
  rw [List.range_succ, List.flatMap_append, List.flatMap_singleton]
theorem tmE_len (one : List Int) (vs : List Fr) (e n : Nat) : (tmE one vs e n).length ≤ n := by
  have := List.length_filterMap_le (fun k => if cf one k = 0 then none else some (cf one k, vs.getD (k + e) (0, 1))) (List.range n)
  rw [List.length_range] at this
  exact this
theorem tms_len {row : List (List Int)} {L : List (List Fr)} {e : Nat} (h : ∀ x ∈ row, x.length ≤ 4) : ∀ n, (tms row L e n).length ≤ 4 * n
  | 0 => Nat.le_refl _
  | n + 1 => by
    have ih := tms_len (L := L) (e := e) h n
    have h1 := tmE_len (row.getD n []) (L.getD n []) e (row.getD n []).length
    have h2 : (row.getD n []).length ≤ 4 := by
      rw [List.getD_eq_getElem?_getD]
      cases ex : row[n]? with
      | none => exact Nat.zero_le _
      | some x => exact h x (mem_at ex)
    rw [tms_snoc, List.length_append]
    omega
theorem at_getF {α : Type} {xs : List α} {i : Nat} {d : α} (h : i < xs.length) : xs[i]? = some (xs.getD i d) := by
  rw [List.getD_eq_getElem?_getD, List.getElem?_eq_getElem h]; rfl
theorem getF_at {α : Type} {xs : List α} {i : Nat} {x d : α} (h : xs[i]? = some x) : xs.getD i d = x := by
  rw [List.getD_eq_getElem?_getD, h]; rfl
/-- values of the size that comes up -/
def VL (L : List (List Fr)) : Prop := ∀ l ∈ L, ∀ v ∈ l, Rr v
theorem tmE_ft {one : List Int} {vs : List Fr} {e n : Nat} (h1 : ∀ x ∈ one, x.natAbs ≤ 10 ^ 30) (h2 : ∀ v ∈ vs, Rr v) (hn : n ≤ one.length) (hl : n + e ≤ vs.length) : ∀ t ∈ tmE one vs e n, Ft t := fun t ht => by
  obtain ⟨k, hk, e1⟩ := List.mem_filterMap.mp ht
  have lk := List.mem_range.mp hk
  split at e1
  · cases e1
  · obtain rfl := Option.some.inj e1
    exact ⟨h1 _ (mem_at (at_map (by omega))), h2 _ (mem_at (at_getF (by omega)))⟩
/-- a term, whatever becomes of D -/
def TD (D : Addr) (H : Hp) (a : Addr) (t : Int × Fr) : Prop := ∀ H', SameX D H H' → TR H' a t
theorem TD.mono {D : Addr} {H H' : Hp} {a : Addr} {t : Int × Fr} (s : SameX D H H') (h : TD D H a t) : TD D H' a t := fun G sg => h G (s.trans sg)
theorem td_all {D : Addr} {H H' : Hp} {as : List Addr} {ts : List (Int × Fr)} (s : SameX D H H') (h : A2 (TD D H) as ts) : A2 (TD D H') as ts := h.mono fun _ _ z => z.mono s
theorem td_end {D : Addr} {H : Hp} {as : List Addr} {ts : List (Int × Fr)} (h : A2 (TD D H) as ts) : A2 (TR H) as ts := h.mono fun _ _ z => z H fun _ _ _ z => z
section
variable {P : Program} {w : World} {K : PySem.W.Frag} {mg : Str → Option Value} {base : Heap}
theorem cutT {xs : List V} {z : Int} {L : Nat} (e : z = (L : Int)) : cutV xs none (some z) = xs.take L := by
  subst e
  unfold cutV
  rw [HT.sIx_none, HT.sIx_nat, List.drop_zero, Nat.sub_zero]
  rcases Nat.le_total L xs.length with h | h
  · rw [Nat.min_eq_left h]
  · rw [Nat.min_eq_right h, List.take_of_length_le (Nat.le_refl _), List.take_of_length_le h]
def sp_terms : Sp := fun vs H Q _ => ∃ (a b : Addr) (row : List (List Int)) (L : List (List Fr)) (e N : Nat), vs = [.ref a, .ref b, .int (e : Nat)] ∧ RowL H a row ∧ LL H b L ∧ row.length = L.length ∧ row.length ≤ 16 ∧ (∀ x ∈ row, VE x ∧ x.length + e ≤ N) ∧ (∀ l ∈ L, l.length = N) ∧ N ≤ 1000 ∧ e ≤ N ∧
  ∀ H' q, Same H H' → TL H' q (tms row L e row.length) → Q (.ref q) H'
theorem ok_terms (T : Txt K mg) : FnOk P w K mg base CX0 1 T.terms.a T.terms.fd ["row", "lists", "e"] sp_terms := by
  refine T.terms.F.ok sc_terms (fun vs H Q E h => ?_) (fun cdv A outer s H vs Q E hr h => ?_)
  · obtain ⟨a, b, row, L, e, N, rfl, _⟩ := h
    rfl
  · obtain ⟨a, b, row, L, e, N, rfl, ⟨as, ha, hA⟩, ⟨bs, hb, hB⟩, hl, l16, hrow, hL, hN, he, q⟩ := h
    refine ⟨_, (pss_cons (ps_set (i := 3) sc_terms.nd rfl (.inl rfl) (pe_lst pa_nil))
      (pss_cons (ps_for PassesOwn.never rfl (pi_zip (by rfl) T.m_zip (pa_cons (pv 0) (pa_cons (pv 1) pa_nil))) (pg_tup rfl (pgs_cons (pg_name (i := 4) sc_terms.nd rfl (.inl rfl)) (pgs_cons (pg_name (i := 5) sc_terms.nd rfl (.inl rfl)) pgs_nil)))
        (pss_one (ps_for PassesOwn.never rfl (pi_enum (by rfl) T.m_enumerate (pa_cons (pe_slice sl_list (pv 4) po_none (po_some (pe_callB (call_max2 rfl) (by rfl) T.m_max (by decide +kernel) (pa_cons pe_int (pa_cons (pe_op op_sub (pe_callB call_len_seq (by rfl) T.m_len (by decide +kernel) (pa_cons (pv 5) pa_nil)) (pv 2)) pa_nil))))) pa_nil)) (pg_tup rfl (pgs_cons (pg_name (i := 6) sc_terms.nd rfl (.inl rfl)) (pgs_cons (pg_name (i := 7) sc_terms.nd rfl (.inl rfl)) pgs_nil)))
          (pss_one (ps_if (pt_cmpR op_ne (pv 7) pe_int (nomark _))
            (pss_one (ps_expr (pe_bm PySem.F.plainAttrs_list PySem.F.slot_list_append PySem.F.type_list_append mt_append (pv 3) (pa_cons (pe_tup (pa_cons (pv 7) (pa_cons (pe_ix ix_list (pv 5) (pe_op op_add (pv 6) (pv 2)) (fun _ _ => rfl)) pa_nil))) pa_nil))))
            pss_nil)))))
      (pss_one (ps_ret (pv 3))))), ?_⟩
    have la := hA.len
    have lb := hB.len
    refine ⟨by show 0 ≤ sizeLine; decide, fun D nD => ?_⟩
    have s0 := same_upd nD (o := .lst [])
    refine ⟨_, rfl, _, rfl, a, b, as.map V.ref, bs.map V.ref, rfl, .of (s0 _ _ ha), .of (s0 _ _ hb), ?_⟩
    refine for_it (walk_zip (K := K) (a := a) (b := b) (xs := as.map V.ref) (ys := bs.map V.ref) (n := row.length) (by rw [List.length_map, List.length_map]; omega)) (fun i σ G => Same H G ∧ ∃ (v4 v5 v6 v7 : Option V) (cs : List Addr), σ = [some (.ref a), some (.ref b), some (.int (e : Nat)), some (.ref D), v4, v5, v6, v7] ∧ G D = some (.lst (cs.map V.ref)) ∧ A2 (TD D G) cs (tms row L e i))
      ⟨s0, none, none, none, none, [], rfl, upd_same, .nil⟩ (fun i σ G _ z => ⟨.of (z.1 _ _ ha), .of (z.1 _ _ hb)⟩) (fun i x σ G Gx hi pv yy => ?_) (fun σ G pv => ?_)
    · obtain ⟨sm, v4, v5, v6, v7, cs, rfl, hD, hT⟩ := pv
      obtain ⟨T', x', y', rfl, nT, rfl, hx, hy⟩ := yy
      obtain ⟨a1, ea1, rfl⟩ := ref_at hx
      obtain ⟨b1, eb1, rfl⟩ := ref_at hy
      obtain ⟨one, eo, hI⟩ := hA.get ea1
      obtain ⟨vs, ev, cs1, hc1, hC⟩ := hB.get eb1
      have sT := same_upd nT (o := .tup [.ref a1, .ref b1])
      have smT := sm.trans sT
      have hDT := sT _ _ hD
      have hTT := td_all (sx sT) hT
      obtain ⟨ve, lo⟩ := hrow one (mem_at eo)
      have lv := hL vs (mem_at ev)
      refine ⟨T', _, rfl, .of upd_same, rfl, _, _, rfl, _, _, rfl, rfl, ?_⟩
      generalize upd G T' _ = GT at sT smT hDT hTT
      have hI1 : GT a1 = some (.lst (one.map V.int)) := smT _ _ hI
      have hc1' := smT _ _ hc1
      have lc := hC.len
      refine ⟨_, rfl, _, rfl, b1, _, rfl, .inl (.of hc1'), _, rfl, _, _, rfl, rfl, _, _, rfl, ?_⟩
      have emax : (if ((cs1.map V.ref).length : Int) - (e : Int) > 0 then ((cs1.map V.ref).length : Int) - (e : Int) else 0) = ((N - e : Nat) : Int) := by
        rw [List.length_map]
        split <;> omega
      rw [emax]
      refine ⟨_, rfl, a1, _, rfl, .of hI1, fun sl nsl => ?_⟩
      rw [cutT rfl, List.take_of_length_le (by rw [List.length_map]; omega)]
      have s2 := same_upd nsl (o := .lst (one.map V.int))
      have hsl : upd GT sl (.lst (one.map V.int)) sl = some (.lst (one.map V.int)) := upd_same
      have sm2 := smT.trans s2
      have hD2 := s2 _ _ hDT
      have hT2 := td_all (sx s2) hTT
      have hc2 := s2 _ _ hc1'
      generalize upd GT sl _ = G2 at s2 hsl sm2 hD2 hT2 hc2
      refine ⟨sl, _, rfl, .of hsl, ?_⟩
      have slD : sl ≠ D := fun z => by rw [z, hDT] at nsl; cases nsl
      have bD : b1 ≠ D := fun z => by rw [z, nD] at hc1; cases hc1
      refine for_it (walk_enum (K := K) (a := sl) (xs := one.map V.int)) (fun k σ G => SameX D G2 G ∧ Same H G ∧ ∃ (v6 v7 : Option V) (cs : List Addr), σ = [some (.ref a), some (.ref b), some (.int (e : Nat)), some (.ref D), some (.ref a1), some (.ref b1), v6, v7] ∧ G D = some (.lst (cs.map V.ref)) ∧ A2 (TD D G) cs (tms row L e i ++ tmE one vs e k))
        ⟨fun _ _ _ z => z, sm2, v6, v7, cs, rfl, hD2, by rw [show tmE one vs e 0 = [] from rfl, List.append_nil]; exact hT2⟩ (fun _ _ _ _ z => .of (z.1 _ _ slD hsl)) (fun k x σ G3 Gx hk pv yy => ?_) (fun σ G3 pv => ?_)
      · obtain ⟨sg, sh, v6, v7, cs, rfl, hD3, hT3⟩ := pv
        obtain ⟨T2, x', y', rfl, nT2, rfl, e1, hy⟩ := yy
        obtain rfl := Option.some.inj e1
        rw [List.length_map] at hk
        have hy : (one.map V.int)[k]? = some y' := hy
        rw [List.getElem?_map, at_map hk] at hy
        obtain rfl := Option.some.inj hy
        have s4 := same_upd nT2 (o := .tup [.int (k : Nat), .int (cf one k)])
        have hD4 := s4 _ _ hD3
        have hT4 := td_all (sx s4) hT3
        have hc4 := s4 _ _ (sg _ _ bD hc2)
        have sh4 := sh.trans s4
        have sg4 := sg.trans (sx s4)
        refine ⟨T2, _, rfl, .of upd_same, rfl, _, _, rfl, _, _, rfl, rfl, ?_⟩
        generalize upd G3 T2 _ = G4 at s4 hD4 hT4 hc4 sh4 sg4
        refine ⟨_, rfl, rfl, _, rfl, ?_⟩
        by_cases z : cf one k = 0
        · rw [tmE_no z]
          rw [show (!decide (V.int (cf one k) = V.int 0)) = false by rw [z]; rfl]
          exact iteF ⟨sg4, sh4, _, _, cs, rfl, hD4, hT4⟩
        · rw [tmE_yes z, ← List.append_assoc]
          rw [show (!decide (V.int (cf one k) = V.int 0)) = true by rw [decide_eq_false (fun y => z (V.int.inj y))]; rfl]
          obtain ⟨c1, ec1, hv⟩ := hC.get' (at_getF (xs := vs) (i := k + e) (d := (0, 1)) (by omega))
          have lT := hT3.len
          have l1 : (tms row L e i).length ≤ 4 * i := tms_len (fun x hx => (hrow x hx).1.1) i
          have l2 := tmE_len one vs e k
          have lo13 := ve.1
          have li : i < row.length := hi
          rw [List.length_append] at lT
          refine iteT ⟨_, rfl, .inl ⟨rfl, _, .of hD4⟩, _, rfl, _, rfl, _, rfl, _, rfl, _, _, rfl, rfl, b1, _, _, _, rfl, rfl, .of hc4, (by
            rw [show ((k : Nat) : Int) + (e : Int) = ((k + e : Nat) : Int) by omega]
            exact atI_nat (by rw [List.getElem?_map, ec1]; rfl)), by show 2 ≤ sizeLine; decide, fun c nc => ?_⟩
          have s5 := same_upd nc (o := .tup [.int (cf one k), .ref c1])
          have cD : c ≠ D := fun z => by rw [z, hD4] at nc; cases nc
          have hv4 : PR G4 c1 (vs.getD (k + e) (0, 1)) := (hv.same sh4)
          have nc1D : c1 ≠ D := fun z => by rw [z] at hv; rw [show H D = some _ from hv] at nD; cases nD
          refine ⟨D, _, _, rfl, rfl, s5 _ _ hD4, small' (by rw [List.length_map]; omega), ?_⟩
          refine ⟨(sg4.trans (sx s5)).trans SameX.put, same_over (sh4.trans s5) nD, _, _, cs ++ [c], rfl, by rw [upd_same, List.map_append]; rfl, A2.snoc (fun G' sg' => ⟨c1, sg' _ _ cD (by rw [upd_ne cD]; exact upd_same), sg' _ _ nc1D (by rw [upd_ne nc1D]; exact s5 _ _ hv4)⟩) (td_all ((sx s5).trans SameX.put) hT4)⟩
      · obtain ⟨sg, sh, v6, v7, cs, rfl, hD3, hT3⟩ := pv
        refine ⟨sh, _, _, _, _, cs, rfl, hD3, ?_⟩
        rw [tms_snoc, getF_at eo, getF_at ev, ← List.length_map (f := V.int) (as := one)]
        exact hT3
    · obtain ⟨sm, v4, v5, v6, v7, cs, rfl, hD, hT⟩ := pv
      exact ⟨_, rfl, q G D sm ⟨cs, hD, td_end hT⟩⟩
end
end K70
-- N70
namespace K70
open PySem PySem.Spec PyProof.Rows L2
open QF (low sg gc)
/-! ### what is refused -/
section
variable {P : Program} {w : World} {K : PySem.W.Frag} {mg : Str → Option Value} {base : Heap}
/-- an error with a number is raised -/
def Rs (H : Hp) (E : XK) (C : Addr) (i : Nat) : Prop := ∀ H1, Same H H1 → ∀ dd, H1 dd = none → E (.ref C) (some dd) (upd H1 dd (.xd [("at", .int (i : Nat))]))
theorem Rs.same {H H' : Hp} {E : XK} {C : Addr} {i : Nat} (s : Same H H') (h : Rs H E C i) : Rs H' E C i := fun H1 s1 => h H1 (s.trans s1)
def sp_need_exact (K : PySem.W.Frag) (C : Addr) : Sp := fun vs H Q E => ∃ (g : Addr) (rs : List Rw), vs = [.ref g] ∧ GR K H g rs ∧ rs.length ≤ 1000 ∧ ((∀ r ∈ rs, r.1 = true) → ∀ H', Same H H' → Q .non H') ∧
  ∀ i r, rs[i]? = some r → r.1 = false → (∀ x ∈ rs.take i, x.1 = true) → Rs H E C i
theorem ok_need_exact (T : Txt K mg) (X : Errs K mg) : FnOk P w K mg base (L2.CX P w) 4 T.need_exact.a T.need_exact.fd ["grid"] (sp_need_exact K X.NotExact.C) := by
  refine T.need_exact.F.okX sc_need_exact (fun vs H Q E h => ?_) (fun cdv A outer s H vs Q E hr h => ?_)
  · obtain ⟨g, rs, rfl, _⟩ := h
    rfl
  · obtain ⟨g, rs, rfl, ⟨xs, hg, hA⟩, hl, q, qE⟩ := h
    refine ⟨_, (pss_one (ps_for (passes_of rfl) rfl (pi_enum (by rfl) T.m_enumerate (pa_cons (pv 0) pa_nil)) (pg_tup rfl (pgs_cons (pg_name (i := 1) sc_need_exact.nd rfl (.inl rfl)) (pgs_cons (pg_name (i := 2) sc_need_exact.nd rfl (.inl rfl)) pgs_nil)))
        (pss_one (ps_if (pt_not (pt_val (pe_call (ok_is_exact T) (hr.mono (by decide)) (by rfl) T.is_exact.g T.is_exact.F.kp T.is_exact.b .nil pass0 (pa_cons (pv 2) pa_nil))))
          (pss_one (ps_raise rfl (takes_of rfl rfl rfl rfl) (pmk_oex X.NotExact.oex X.NotExact.iC X.e0.tI (ok_init T X) (hr.mono (by decide)) X.e0.b .nil pass0 (by rfl) X.NotExact.g (pa_cons (pv 1) pa_nil))))
          pss_nil)))), ?_⟩
    have la := hA.len
    refine ⟨.ref g, rfl, g, _, rfl, .of hg, ?_⟩
    refine for_it (walk_enum (K := K) (a := g) (xs := xs)) (fun i σ G => Same H G ∧ (∀ x ∈ rs.take i, x.1 = true) ∧ ∃ v1 v2 : Option V, σ = [some (.ref g), v1, v2]) ⟨.refl _, (fun _ z => by cases z), none, none, rfl⟩ (fun _ _ _ _ z => .of (z.1 _ _ hg)) (fun i x σ G Gx hi pv yy => ?_) (fun σ G pv => ?_)
    · obtain ⟨sm, ho, v1, v2, rfl⟩ := pv
      obtain ⟨T', x', y', rfl, nT, rfl, e1, hy⟩ := yy
      obtain rfl := Option.some.inj e1
      have hy : xs[i]? = some y' := hy
      obtain ⟨r, er, hR⟩ := hA.get hy
      have sT := same_upd nT (o := .tup [.int (i : Nat), y'])
      refine ⟨T', _, rfl, .of upd_same, rfl, _, _, rfl, _, _, rfl, rfl, ?_⟩
      refine ⟨_, rfl, y', r, rfl, hR.lk (lk (sm.trans sT)), ?_⟩
      have li : i < rs.length := (List.getElem?_eq_some_iff.mp er).1
      cases e : r.1 with
      | false =>
        refine ⟨_, rfl, iteT ⟨_, rfl, by show 1 ≤ 1000; decide, LX.raised X.NotExact (by omega) fun dd hdd => qE i r er e ho _ (sm.trans sT) dd hdd⟩⟩
      | true =>
        refine ⟨_, rfl, iteF ⟨sm.trans sT, fun z hz => ?_, _, _, rfl⟩⟩
        rw [take_snoc er] at hz
        rcases List.mem_append.mp hz with hz | hz
        · exact ho z hz
        · rw [List.mem_singleton.mp hz]; exact e
    · obtain ⟨sm, ho, v1, v2, rfl⟩ := pv
      rw [la, List.take_length] at ho
      exact q ho G sm
def sp_need_sources (K : PySem.W.Frag) (C1 C2 : Addr) : Sp := fun vs H Q E => ∃ (g p : Addr) (rs : List Rw) (L : List (List Fr)), vs = [.ref g, .ref p] ∧ GR K H g rs ∧ LL H p L ∧ rs.length ≤ 1000 ∧ L.length ≤ 1000 ∧ (L.length ≠ rs.length → Rs H E C1 L.length) ∧
  (L.length = rs.length → (∀ l ∈ L, l.length ≤ 12) → ∀ H', Same H H' → Q .non H') ∧ (L.length = rs.length → ∀ i l, L[i]? = some l → 12 < l.length → (∀ x ∈ L.take i, x.length ≤ 12) → Rs H E C2 i)
theorem ok_need_sources (T : Txt K mg) (X : Errs K mg) : FnOk P w K mg base (L2.CX P w) 4 T.need_sources.a T.need_sources.fd ["grid", "sources"] (sp_need_sources K X.WrongSize.C X.OutOfRange.C) := by
  refine T.need_sources.F.okX sc_need_sources (fun vs H Q E h => ?_) (fun cdv A outer s H vs Q E hr h => ?_)
  · obtain ⟨g, p, rs, L, rfl, _⟩ := h
    rfl
  · obtain ⟨g, p, rs, L, rfl, ⟨xs, hg, hA⟩, ⟨bs, hp, hB⟩, hl, hL, qW, q, qO⟩ := h
    refine ⟨_, (pss_cons (ps_if (pt_cmpR op_ne (pe_callB call_len_seq (by rfl) T.m_len (by decide +kernel) (pa_cons (pv 1) pa_nil)) (pe_callB call_len_seq (by rfl) T.m_len (by decide +kernel) (pa_cons (pv 0) pa_nil)) (nomark _))
        (pss_one (ps_raise rfl (takes_of rfl rfl rfl rfl) (pmk_oex X.WrongSize.oex X.WrongSize.iC X.e0.tI (ok_init T X) (hr.mono (by decide)) X.e0.b .nil pass0 (by rfl) X.WrongSize.g (pa_cons (pe_callB call_len_seq (by rfl) T.m_len (by decide +kernel) (pa_cons (pv 1) pa_nil)) pa_nil))))
        pss_nil)
      (pss_one (ps_for (passes_of rfl) rfl (pi_enum (by rfl) T.m_enumerate (pa_cons (pv 1) pa_nil)) (pg_tup rfl (pgs_cons (pg_name (i := 2) sc_need_sources.nd rfl (.inl rfl)) (pgs_cons (pg_name (i := 3) sc_need_sources.nd rfl (.inl rfl)) pgs_nil)))
        (pss_one (ps_if (pt_cmpR op_gt (pe_callB call_len_seq (by rfl) T.m_len (by decide +kernel) (pa_cons (pv 3) pa_nil)) (pe_glob (v := .int 12) rfl T.c_MOST_VALUES ⟨_, rfl⟩) (nomark _))
          (pss_one (ps_raise rfl (takes_of rfl rfl rfl rfl) (pmk_oex X.OutOfRange.oex X.OutOfRange.iC X.e0.tI (ok_init T X) (hr.mono (by decide)) X.e0.b .nil pass0 (by rfl) X.OutOfRange.g (pa_cons (pv 2) pa_nil))))
          pss_nil))))), ?_⟩
    have la := hA.len
    have lb := hB.len
    refine ⟨_, rfl, p, _, rfl, .inl (.of hp), _, rfl, g, _, rfl, .inl (.of hg), ?_⟩
    refine ⟨rfl, _, rfl, ?_⟩
    by_cases e : L.length = rs.length
    · have ee : (!decide (V.int (((bs.map V.ref).length : Nat) : Int) = V.int ((xs.length : Nat) : Int))) = false := by
        rw [decide_eq_true (by rw [List.length_map]; exact congrArg V.int (by omega))]; rfl
      rw [ee]
      refine iteF ⟨.ref p, rfl, p, _, rfl, .of hp, ?_⟩
      refine for_it (walk_enum (K := K) (a := p) (xs := bs.map V.ref)) (fun i σ G => Same H G ∧ (∀ x ∈ L.take i, x.length ≤ 12) ∧ ∃ v2 v3 : Option V, σ = [some (.ref g), some (.ref p), v2, v3]) ⟨.refl _, (fun _ z => by cases z), none, none, rfl⟩ (fun _ _ _ _ z => .of (z.1 _ _ hp)) (fun i x σ G Gx hi pv yy => ?_) (fun σ G pv => ?_)
      · obtain ⟨sm, ho, v2, v3, rfl⟩ := pv
        obtain ⟨T', x', y', rfl, nT, rfl, e1, hy⟩ := yy
        obtain rfl := Option.some.inj e1
        obtain ⟨b, eb, rfl⟩ := ref_at hy
        obtain ⟨l, el, cs, hc, hC⟩ := hB.get eb
        have lc := hC.len
        have sT := same_upd nT (o := .tup [.int (i : Nat), .ref b])
        have li : i < L.length := (List.getElem?_eq_some_iff.mp el).1
        refine ⟨T', _, rfl, .of upd_same, rfl, _, _, rfl, _, _, rfl, rfl, ?_⟩
        refine ⟨_, rfl, b, _, rfl, .inl (.of (sT _ _ (sm _ _ hc))), _, _, rfl, rfl, _, rfl, ite2 (fun h => ?_) (fun h => ?_)⟩
        · have h12 : 12 < l.length := by have := of_decide_eq_true h; rw [List.length_map] at this; omega
          exact ⟨_, rfl, by show 1 ≤ 1000; decide, LX.raised X.OutOfRange (by omega) fun dd hdd => qO e i l el h12 ho _ (sm.trans sT) dd hdd⟩
        · have h12 : l.length ≤ 12 := by
            rcases Nat.lt_or_ge 12 l.length with z | z
            · exact absurd (decide_eq_true (by rw [List.length_map]; omega)) h
            · exact z
          refine ⟨sm.trans sT, fun z hz => ?_, _, _, rfl⟩
          rw [take_snoc el] at hz
          rcases List.mem_append.mp hz with hz | hz
          · exact ho z hz
          · rw [List.mem_singleton.mp hz]; exact h12
      · obtain ⟨sm, ho, v2, v3, rfl⟩ := pv
        rw [List.length_map, lb, List.take_length] at ho
        exact q e ho G sm
    · have ee : (!decide (V.int (((bs.map V.ref).length : Nat) : Int) = V.int ((xs.length : Nat) : Int))) = true := by
        rw [decide_eq_false (by rw [List.length_map]; intro z; injection z with z; omega)]; rfl
      rw [ee]
      refine iteT ⟨_, rfl, p, _, rfl, .inl (.of hp), by show 1 ≤ 1000; decide, LX.raised X.WrongSize (by rw [List.length_map]; omega) fun dd hdd => ?_⟩
      rw [List.length_map, lb]
      exact qW e _ (.refl _) dd hdd
end
end K70
-- Y70
namespace K70
open PySem PySem.Spec PyProof.Rows L2
open QF (low sg gc)
/-! ### a row is kept -/
def dP (r : Int × Int) : PyData := .tuple [.int r.1, .int r.2]
theorem PR.dp {K : PySem.W.Frag} {H : Hp} {a : Addr} {r : Int × Int} (h : PR H a r) : Dp K H (.ref a) (dP r) := .tup h.sq (.cons (.int r.1) (.cons (.int r.2) .nil))
theorem shaped_dP (r : Int × Int) : SeqAt.shaped (dP r) = true := rfl
theorem eqv_dP2 (r s : Int × Int) : PyData.eqv (dP r) (dP s) = decide (r = s) := by
  unfold dP
  simp only [PyData.eqv, PyData.eqvAll]
  obtain ⟨a, b⟩ := r
  obtain ⟨c, d⟩ := s
  by_cases h1 : a = c <;> by_cases h2 : b = d <;> simp [h1, h2]
def mlen : List (List Int) → Nat
  | [] => 0
  | x :: r => max x.length (mlen r)
theorem mlen_le : ∀ {row : List (List Int)}, ∀ x ∈ row, x.length ≤ mlen row
  | y :: r, x, h => by
    unfold mlen
    rcases List.mem_cons.mp h with rfl | h
    · exact Nat.le_max_left _ _
    · exact Nat.le_trans (mlen_le x h) (Nat.le_max_right _ _)
theorem mlen_is {n : Nat} : ∀ {row : List (List Int)}, (∃ x ∈ row, x.length = n) → (∀ x ∈ row, x.length ≤ n) → mlen row = n := fun {row} h1 h2 => by
  obtain ⟨x, hx, e⟩ := h1
  have a := mlen_le x hx
  have b : ∀ {r : List (List Int)}, (∀ x ∈ r, x.length ≤ n) → mlen r ≤ n := by
    intro r
    induction r with
    | nil => exact fun _ => Nat.zero_le _
    | cons y r ih => exact fun h => Nat.max_le.mpr ⟨h y List.mem_cons_self, ih fun z hz => h z (List.mem_cons_of_mem _ hz)⟩
  have := b h2
  omega
theorem mlen_bd {n : Nat} : ∀ {r : List (List Int)}, (∀ x ∈ r, x.length ≤ n) → mlen r ≤ n
  | [], _ => Nat.zero_le _
  | y :: r, h => Nat.max_le.mpr ⟨h y List.mem_cons_self, mlen_bd fun z hz => h z (List.mem_cons_of_mem _ hz)⟩
theorem mlen_0 {row : List (List Int)} (h : ∀ x ∈ row, x = []) : mlen row = 0 := by
  cases row with
  | nil => rfl
  | cons y r => exact mlen_is ⟨y, List.mem_cons_self, by rw [h y List.mem_cons_self]; rfl⟩ fun x hx => by rw [h x hx]; exact Nat.le_refl _
def degs (row : List (List Int)) : List Int := row.filterMap fun x => if x = [] then none else some ((x.length : Int) - 1)
theorem degs_nil {row : List (List Int)} (h : degs row = []) : ∀ x ∈ row, x = [] := fun x hx => by
  refine Classical.byContradiction fun z => ?_
  have : ((x.length : Int) - 1) ∈ degs row := List.mem_filterMap.mpr ⟨x, hx, if_neg z⟩
  rw [h] at this
  cases this
theorem degs_max {row : List (List Int)} {m : Int} (h : m ∈ degs row) (le : ∀ y ∈ degs row, y ≤ m) : m = (mlen row : Int) - 1 ∧ 0 < mlen row := by
  obtain ⟨x, hx, e⟩ := List.mem_filterMap.mp h
  by_cases z : x = []
  · rw [if_pos z] at e; cases e
  · rw [if_neg z] at e
    obtain rfl := Option.some.inj e
    have lx : 0 < x.length := List.length_pos_iff.mpr z
    have : mlen row = x.length := mlen_is ⟨x, hx, rfl⟩ fun y hy => by
      by_cases w : y = []
      · rw [w]; exact Nat.zero_le _
      · have := le _ (List.mem_filterMap.mpr ⟨y, hy, if_neg w⟩)
        omega
    omega
def rowOk (row : List (List Int)) (src : List Fr) (L : List (List Fr)) (N : Nat) : Bool :=
  if mlen row = 0 then src.all fun v => decide (v = (0, 1)) else (List.range (N + 1 - mlen row)).all fun e => decide (fsum (tms row L e row.length) = src.getD e (0, 1))
theorem tms_ft {row : List (List Int)} {L : List (List Fr)} {e N : Nat} (h1 : ∀ x ∈ row, VE x) (h2 : VL L) (hl : row.length = L.length) (hL : ∀ l ∈ L, l.length = N) (he : ∀ x ∈ row, x.length + e ≤ N) : ∀ n, n ≤ row.length → ∀ t ∈ tms row L e n, Ft t := fun n hn t ht => by
  obtain ⟨j, hj, ht⟩ := List.mem_flatMap.mp ht
  have lj := List.mem_range.mp hj
  have m1 : row.getD j [] ∈ row := mem_at (at_getF (by omega))
  have m2 : L.getD j [] ∈ L := mem_at (at_getF (by omega))
  have := he _ m1
  have := hL _ m2
  exact tmE_ft (h1 _ m1).2 (h2 _ m2) (Nat.le_refl _) (by omega) t ht
theorem PL.row {H : Hp} {q : Addr} {rs : List (Int × Int)} (h : PL H q rs) {i : Nat} {r : Int × Int} (hr : rs[i]? = some r) : ∃ (as : List Addr) (a : Addr), H q = some (.lst (as.map V.ref)) ∧ atI (as.map V.ref) ((i : Nat) : Int) = some (.ref a) ∧ PR H a r := by
  obtain ⟨as, hq, hA⟩ := h
  obtain ⟨a, ha, hx⟩ := hA.get' hr
  refine ⟨as, a, hq, atI_nat ?_, hx⟩
  rw [List.getElem?_map, ha]
  rfl
section
variable {P : Program} {w : World} {K : PySem.W.Frag} {mg : Str → Option Value} {base : Heap} {Ps : List Addr}
def sp_keeps_row (Ps : List Addr) : Sp := fun vs H Q _ => ∃ (a p b : Addr) (row : List (List Int)) (src : List Fr) (L : List (List Fr)) (N : Nat), vs = [.ref a, .ref p, .ref b, .int ((N : Int) - 1)] ∧ RowL H a row ∧ PL H p src ∧ LL H b L ∧ row.length = L.length ∧ row.length ≤ 16 ∧ (∀ x ∈ row, VE x) ∧ (∀ l ∈ L, l.length = N) ∧ VL L ∧ 1 ≤ N ∧ N ≤ 1000 ∧ src.length ≤ 1000 ∧ TGs Ps H ∧
  ∀ H', Lk H H' → TGs Ps H' → Q (.bl (rowOk row src L N)) H'
theorem ok_keeps_row (T : Txt K mg) (TB : Tbs base T Ps) : FnOk P w K mg base CX0 3 T.keeps_row.a T.keeps_row.fd ["row", "source", "lists", "h"] (sp_keeps_row Ps) := by
  refine T.keeps_row.ok sc_keeps_row (fun vs H Q E h => ?_) (fun A outer s H vs Q E hr h => ?_)
  · obtain ⟨a, p, b, row, src, L, N, rfl, _⟩ := h
    rfl
  · obtain ⟨a, p, b, row, src, L, N, rfl, ha, hp, hb, hl, l16, hve, hL, hV, n1, n2, ls, tg, q⟩ := h
    refine ⟨_, (pss_cons (ps_setLc (i := 4) (own := [("one", 6)]) rfl sc_keeps_row.nd rfl rfl (sw_true rfl rfl rfl (by decide +kernel)) (pi_list (pv 0)) (blkOk_by (N := ["row", "source", "lists", "h", "degrees", "e", "one", "value"]) (sc := defScope s_keeps_row) (by decide +kernel)) (fun _ _ _ _ _ => (pg_name (i := 6) sc_keeps_row.nd rfl (.inl rfl))) (fun _ _ _ _ _ => (pts_one (pt_cmpR (r := rNeD K) (op_neD hr.units) (pv 6) (pe_lst pa_nil) (nomark _)))) (fun _ _ _ _ _ => (pe_op op_sub (pe_callB (id := "len") (r := rLenS K) call_lenC (by rfl) T.m_len (by decide +kernel) (pa_cons (pv 6) pa_nil)) pe_int)))
      (pss_cons (ps_if (pt_cmpR (op_eqD hr.units) (pv 4) (pe_lst pa_nil) (nomark _))
        (pss_one (ps_ret (GN.pe_allG (own := [("value", 7)]) hr sc_keeps_row.nd (by rfl) T.m_all TB.keeps_row rfl (GN.nmOk_by (blkOk_by (N := ["row", "source", "lists", "h", "degrees", "e", "one", "value"]) (sc := defScope s_keeps_row) (by decide +kernel))) (pi_list (pv 1)) (fun _ _ _ _ _ _ => (pg_name (i := 7) sc_keeps_row.nd rfl (.inl rfl))) (fun _ _ _ _ _ _ hr2 gd2 => (pe_cmpR (r := rEqD K) (op_eqD hr2.units) (pv 7) (pe_tup (pa_cons pe_int (pa_cons pe_int pa_nil))) (nomark _))))))
        pss_nil)
      (pss_cons (ps_for PassesOwn.never rfl (pi_range1 (by rfl) T.m_range (pa_cons (pe_op op_add (pe_op op_sub (pv 3) (pe_callB (cr_max rfl) (by rfl) T.m_max (by decide +kernel) (pa_cons (pv 4) pa_nil))) pe_int) pa_nil)) (pg_name (i := 5) sc_keeps_row.nd rfl (.inl rfl))
        (pss_one (ps_if (pt_cmpR (op_neD hr.units) (pe_call (ok_combined T) (hr.mono (by decide)) (by rfl) T.combined.g T.combined.F.kp T.combined.b .nil pass0 (pa_cons (pe_call (ok_terms T) (hr.mono (by decide)) (by rfl) T.terms.g T.terms.F.kp T.terms.b .nil pass0 (pa_cons (pv 0) (pa_cons (pv 2) (pa_cons (pv 5) pa_nil)))) pa_nil)) (pe_ifExp (pt_cmpR op_lt (pv 5) (pe_callB call_len_seq (by rfl) T.m_len (by decide +kernel) (pa_cons (pv 1) pa_nil)) (nomark _)) (pe_ix ix_list (pv 1) (pv 5) (fun _ _ => rfl)) (pe_tup (pa_cons pe_int (pa_cons pe_int pa_nil)))) (nomark _))
          (pss_one (ps_ret pe_bl))
          pss_nil)))
      (pss_one (ps_ret pe_bl))))), ?_⟩
    obtain ⟨as, hra, hA⟩ := id ha
    have la := hA.len
    refine ⟨.ref a, rfl, a, rfl, ⟨_, .of hra⟩, fun D nD => ?_⟩
    refine lc_fm (walk_list (K := K) (a := a) (xs := as.map V.ref)) row (fun x => if x = [] then none else some ((x.length : Int) - 1)) (fun _ v b => v = V.int b) (fun _ _ _ _ _ z => z) (by rw [List.length_map]; exact la.symm) nD (fun H' s => .of (s _ _ hra)) (small' (by rw [List.length_map]; omega)) (fun i x G Gx ys one eo sm hD y Qt Qf qt qf => ?_) (fun G ys sm hD hR => ?_)
    · obtain ⟨rfl, hx⟩ := y
      obtain ⟨c, ec, rfl⟩ := ref_at hx
      obtain ⟨one', eo', hI⟩ := hA.get ec
      rw [eo] at eo'
      obtain rfl := Option.some.inj eo'
      refine ⟨rfl, .ref c, rfl, by show 0 ≤ sizeLine; decide, fun l nl => ?_⟩
      have s1 := same_upd nl (o := .lst [])
      refine ⟨dI one, .list [], dpI ((hI.same sm).same s1).sq, .lst (.of upd_same) .nil, shaped_dI one, rfl, _, rfl, ?_⟩
      rw [eqv_nil]
      by_cases z : one = []
      · rw [decide_eq_true z]
        exact iteF (qf (by rw [if_pos z]) _ s1)
      · rw [decide_eq_false z]
        refine iteT ⟨.ref c, rfl, c, _, rfl, .inl ((hI.same sm).same s1).sq, _, _, rfl, rfl, qt _ _ _ (by rw [if_neg z]) s1 (by rw [List.length_map])⟩
    · have hD1 : IL G D (degs row) := by
        rw [a2_eq hR] at hD
        exact hD
      refine ⟨.ref D, rfl, by show 0 ≤ sizeLine; decide, fun l nl => ?_⟩
      have s1 := same_upd nl (o := .lst [])
      have sm1 := sm.trans s1
      refine ⟨dI (degs row), .list [], dpI (hD1.same s1).sq, .lst (.of upd_same) .nil, shaped_dI _, rfl, _, rfl, ?_⟩
      rw [eqv_nil]
      have hD2 := hD1.same s1
      generalize upd G l _ = G1 at s1 sm1 hD2
      by_cases e : degs row = []
      · rw [decide_eq_true e]
        have er : rowOk row src L N = src.all fun v => decide (v = (0, 1)) := by
          unfold rowOk
          rw [if_pos (mlen_0 (degs_nil e))]
        rw [er] at q
        obtain ⟨ps, hps, hP⟩ := hp.same sm1
        have lp := hP.len
        have tg1 := tg.same sm1
        refine iteT ⟨.ref p, rfl, p, rfl, ⟨_, .of hps⟩, tg1 _ TB.m1, ?_⟩
        refine GN.gn_it (walk_list (K := K) (a := p) (xs := ps.map V.ref)) (fun i G => Lk G1 G ∧ TGs Ps G ∧ ∀ x ∈ src.take i, x = (0, 1)) (fun G t => ⟨lk_tab (tg1 _ TB.m1) t, tg1.tab t, fun x hx => by simp at hx⟩) (fun _ _ _ pv => .of (pv.1.lst hps)) (fun i x G G' hi pv y => ?_) (fun G pv => ?_)
        · obtain ⟨lk1, t, al⟩ := pv
          obtain ⟨rfl, hx⟩ := y
          obtain ⟨c, ec, rfl⟩ := ref_at hx
          obtain ⟨v, ev, hv⟩ := hP.get ec
          refine ⟨rfl, .ref c, rfl, by show 2 ≤ sizeLine; decide, fun t2 nt2 => ?_⟩
          have s2 := same_upd nt2 (o := .tup [.int 0, .int 1])
          have hv2 := (hv.lk lk1).same s2
          have h01 : PR (upd G' t2 (.tup [.int 0, .int 1])) t2 (0, 1) := upd_same
          refine ⟨dP v, dP (0, 1), hv2.dp, h01.dp, rfl, rfl, ?_⟩
          rw [eqv_dP2]
          refine ⟨_, rfl, ?_⟩
          have lk2 := lk1.trans (lk s2)
          by_cases h : v = (0, 1)
          · rw [decide_eq_true h]
            exact GN.on_t ⟨lk2, t.same s2, take_all ev al h⟩
          · rw [decide_eq_false h]
            refine GN.end_f ?_
            have : (src.all fun v => decide (v = (0, 1))) = false := by
              rw [← Bool.not_eq_true, List.all_eq_true]
              exact fun z => h (of_decide_eq_true (z v (mem_at ev)))
            rw [← this]
            exact q _ ((lk sm1).trans lk2) (t.same s2)
        · obtain ⟨lk1, t, al⟩ := pv
          rw [List.length_map, lp, List.take_length] at al
          have : (src.all fun v => decide (v = (0, 1))) = true := List.all_eq_true.mpr fun v hv => decide_eq_true (al v hv)
          show Q (.bl true) G
          rw [← this]
          exact q _ ((lk sm1).trans lk1) t
      · rw [decide_eq_false e]
        have hne : 0 < (degs row).length := List.length_pos_iff.mpr e
        refine iteF ⟨_, rfl, .ref D, rfl, D, _, rfl, hD2.sq, hne, fun m hm hle => ?_⟩
        obtain ⟨rfl, mp⟩ := degs_max hm hle
        have er : rowOk row src L N = (List.range (N + 1 - mlen row)).all fun e => decide (fsum (tms row L e row.length) = src.getD e (0, 1)) := by
          unfold rowOk
          rw [if_neg (by omega)]
        rw [er] at q
        have m13 : mlen row ≤ 4 := mlen_bd fun x hx => (hve x hx).1
        refine ⟨_, _, rfl, rfl, _, _, rfl, rfl, _, rfl, by omega, by omega, ?_⟩
        rw [show ((N : Int) - 1 - ((mlen row : Int) - 1) + 1).toNat = N + 1 - mlen row by omega]
        refine for_it (walk_range (lo := 0) (n := N + 1 - mlen row)) (fun i σ G => Same H G ∧ (∀ e, e < i → fsum (tms row L e row.length) = src.getD e (0, 1)) ∧ ∃ v5 : Option V, σ = [some (.ref a), some (.ref p), some (.ref b), some (.int ((N : Int) - 1)), some (.ref D), v5, none, none])
          ⟨sm1, (fun _ z => absurd z (Nat.not_lt_zero _)), none, rfl⟩ (fun _ _ _ _ _ => trivial) (fun i x σ G2 Gx hi pv y => ?_) (fun σ G2 pv => ?_)
        · obtain ⟨sg, al, v5, rfl⟩ := pv
          obtain ⟨rfl, rfl⟩ := y
          rw [show (fun m : Nat => V.int (0 + (m : Int))) i = V.int ((i : Nat) : Int) from congrArg V.int (Int.zero_add _)]
          have hlen : ∀ x ∈ row, x.length + i ≤ N := fun x hx => by have := mlen_le x hx; omega
          refine ⟨.ref a, rfl, .ref b, rfl, _, rfl, a, b, row, L, i, N, rfl, ha.same sg, hb.same sg, hl, l16, fun x hx => ⟨hve x hx, hlen x hx⟩, hL, n2, by omega, fun H2 o s2 hTL => ?_⟩
          have l13 : (tms row L i row.length).length ≤ 4 * row.length := tms_len (fun x hx => (hve x hx).1) _
          refine ⟨o, _, rfl, hTL, by omega, tms_ft hve hV hl hL hlen _ (Nat.le_refl _), fun H3 r s3 hr3 => ?_⟩
          have sg3 := sg.trans (s2.trans s3)
          obtain ⟨ps, hps, hP⟩ := hp.same sg3
          have lp := hP.len
          refine ⟨_, rfl, .ref p, rfl, p, _, rfl, .inl (.of hps), _, _, rfl, rfl, _, rfl, ?_⟩
          have no : fsum (tms row L i row.length) ≠ src.getD i (0, 1) → ((List.range (N + 1 - mlen row)).all fun e => decide (fsum (tms row L e row.length) = src.getD e (0, 1))) = false := fun ne => by
            rw [← Bool.not_eq_true, List.all_eq_true]
            exact fun z => ne (of_decide_eq_true (z i (List.mem_range.mpr hi)))
          have al2 : fsum (tms row L i row.length) = src.getD i (0, 1) → ∀ e, e < i + 1 → fsum (tms row L e row.length) = src.getD e (0, 1) := fun h e he => by
            by_cases z : e = i
            · rw [z]; exact h
            · exact al e (by omega)
          refine ite2 (fun h => ?_) (fun h => ?_)
          · have il : i < src.length := by have := of_decide_eq_true h; rw [List.length_map] at this; omega
            obtain ⟨c, ec, hv⟩ := hP.get' (at_getF (xs := src) (d := (0, 1)) il)
            refine ⟨.ref p, rfl, _, rfl, p, _, _, _, rfl, rfl, .of hps, atI_nat (by rw [List.getElem?_map, ec]; rfl), dP _, dP _, hr3.dp, hv.dp, rfl, rfl, _, rfl, ?_⟩
            rw [eqv_dP2]
            by_cases z : fsum (tms row L i row.length) = src.getD i (0, 1)
            · rw [decide_eq_true z]
              exact iteF ⟨sg3, al2 z, _, rfl⟩
            · rw [decide_eq_false z]
              rw [no z] at q
              exact iteT (q _ (lk sg3) (tg.same sg3))
          · have il : ¬ i < src.length := fun z => h (decide_eq_true (by rw [List.length_map]; omega))
            have e0 : src.getD i (0, 1) = (0, 1) := by rw [List.getD_eq_getElem?_getD, List.getElem?_eq_none (by omega)]; rfl
            rw [e0] at no al2
            refine ⟨by show 2 ≤ sizeLine; decide, fun t nt => ?_⟩
            have s4 := same_upd nt (o := .tup [.int 0, .int 1])
            have h01 : PR (upd H3 t (.tup [.int 0, .int 1])) t (0, 1) := upd_same
            refine ⟨dP _, dP (0, 1), (hr3.same s4).dp, h01.dp, rfl, rfl, _, rfl, ?_⟩
            rw [eqv_dP2]
            have sg4 := sg3.trans s4
            by_cases z : fsum (tms row L i row.length) = (0, 1)
            · rw [decide_eq_true z]
              exact iteF ⟨sg4, al2 z, _, rfl⟩
            · rw [decide_eq_false z]
              rw [no z] at q
              exact iteT (q _ (lk sg4) (tg.same sg4))
        · obtain ⟨sg, al, v5, rfl⟩ := pv
          have : ((List.range (N + 1 - mlen row)).all fun e => decide (fsum (tms row L e row.length) = src.getD e (0, 1))) = true := List.all_eq_true.mpr fun e he => decide_eq_true (al e (List.mem_range.mp he))
          rw [this] at q
          exact q _ (lk sg) (tg.same sg)
end
end K70
-- A70
namespace K70
open PySem PySem.Spec PyProof.Rows L2
open QF (low sg gc)
/-! ### data and their texts -/
/-- may be shown and compared; a text of at most n signs -/
structure Gd (k n : Nat) (d : PyData) : Prop where
  sh : d.showable = true
  lay : d.canLay0 = true
  dep : d.depth ≤ k
  len : d.shown.length ≤ n
def tot (ts : List Str) : Nat := (ts.map fun t => t.length + 2).sum
theorem textFrom_tot : ∀ (ts : List Str) (k : Nat) (acc : Str), (textFrom k acc ts).length ≤ acc.length + tot ts
  | [], k, acc => Nat.le_add_right _ _
  | t :: r, k, acc => by
    have h := textFrom_tot r (k + 1) (acc ++ (if k > 0 then ", " else "" : String) ++ t)
    rw [Str.length_append, Str.length_append] at h
    have e : ((if k > 0 then ", " else "" : String) : Str).length ≤ 2 := by split <;> decide +kernel
    show (textFrom (k + 1) (acc ++ (if k > 0 then ", " else "" : String) ++ t) r).length ≤ _
    have e2 : tot (t :: r) = t.length + 2 + tot r := by unfold tot; rw [List.map_cons, List.sum_cons]
    omega
theorem join_tot : ∀ ts : List Str, (Str.join ", " ts).length ≤ tot ts
  | [] => Nat.zero_le _
  | [x] => by show x.length ≤ _; unfold tot; simp
  | x :: y :: r => by
    have h := join_tot (y :: r)
    show (x ++ ", " ++ Str.join ", " (y :: r)).length ≤ _
    rw [Str.length_append, Str.length_append]
    have e2 : tot (x :: y :: r) = x.length + 2 + tot (y :: r) := by unfold tot; rw [List.map_cons, List.sum_cons]
    have e3 : ((", " : String) : Str).length = 2 := rfl
    omega
/-- all of them, with all their texts together -/
inductive GdAll (k : Nat) : Nat → List PyData → Prop
  | nil : GdAll k 0 []
  | cons {n m : Nat} {d : PyData} {ds : List PyData} : Gd k n d → GdAll k m ds → GdAll k (n + 2 + m) (d :: ds)
theorem GdAll.facts {k : Nat} : ∀ {n : Nat} {ds : List PyData}, GdAll k n ds → PyData.showableAll ds = true ∧ PyData.canLayAll0 ds = true ∧ PyData.depthAll ds ≤ k ∧ tot (PyData.shownAll ds) ≤ n
  | _, _, .nil => ⟨rfl, rfl, Nat.zero_le _, Nat.le_refl _⟩
  | _, _, .cons (d := d) (ds := ds) h t => by
    obtain ⟨h1, h2, h3, h4⟩ := t.facts
    refine ⟨?_, ?_, ?_, ?_⟩
    · show (PyData.showable d && PyData.showableAll ds) = true
      rw [h.sh, h1]; rfl
    · show (PyData.canLay0 d && PyData.canLayAll0 ds) = true
      rw [h.lay, h2]; rfl
    · show max (PyData.depth d) (PyData.depthAll ds) ≤ k
      exact Nat.max_le.mpr ⟨h.dep, h3⟩
    · show tot (PyData.shown d :: PyData.shownAll ds) ≤ _
      unfold tot at h4 ⊢
      rw [List.map_cons, List.sum_cons]
      have := h.len
      omega
theorem GdAll.map {α : Type} {k n : Nat} {f : α → PyData} : ∀ {xs : List α}, (∀ x ∈ xs, Gd k n (f x)) → GdAll k (xs.length * (n + 2)) (xs.map f)
  | [], _ => by rw [List.length_nil, Nat.zero_mul]; exact .nil
  | x :: r, h => by
    rw [List.length_cons, Nat.succ_mul, Nat.add_comm]
    exact .cons (h x List.mem_cons_self) (GdAll.map fun y hy => h y (List.mem_cons_of_mem _ hy))
theorem Gd.list {k n : Nat} {ds : List PyData} (h : GdAll k n ds) : Gd (k + 1) (n + 2) (.list ds) := by
  obtain ⟨h1, h2, h3, h4⟩ := h.facts
  refine ⟨h1, h2, Nat.succ_le_succ h3, ?_⟩
  show (listText (PyData.shownAll ds)).length ≤ _
  unfold listText
  rw [Str.length_append]
  have := textFrom_tot (PyData.shownAll ds) 0 "["
  have e1 : (("[" : String) : Str).length = 1 := rfl
  have e2 : (("]" : String) : Str).length = 1 := rfl
  omega
theorem Gd.tup {k n : Nat} {ds : List PyData} (h : GdAll k n ds) : Gd (k + 1) (n + 3) (.tuple ds) := by
  obtain ⟨h1, h2, h3, h4⟩ := h.facts
  refine ⟨h1, h2, Nat.succ_le_succ h3, ?_⟩
  show (tupleText (PyData.shownAll ds)).length ≤ _
  unfold tupleText
  rw [Str.length_append, Str.length_append]
  have := join_tot (PyData.shownAll ds)
  have e1 : (("(" : String) : Str).length = 1 := rfl
  have e2 : ((if (PyData.shownAll ds).length == 1 then ",)" else ")" : String) : Str).length ≤ 2 := by split <;> decide +kernel
  omega
theorem Gd.mono {k l n m : Nat} {d : PyData} (h : Gd k n d) (a : k ≤ l) (b : n ≤ m) : Gd l m d := ⟨h.sh, h.lay, Nat.le_trans h.dep a, Nat.le_trans h.len b⟩
theorem log_le {n : Nat} (h : n ≤ 10 ^ 42) : n.log2 < 1920 := by
  rcases Nat.eq_zero_or_pos n with rfl | p
  · decide
  · exact Nat.lt_of_lt_of_le ((Nat.log2_lt (by omega)).mpr (Nat.lt_of_le_of_lt h (by decide : 10 ^ 42 < 2 ^ 150))) (by decide)
theorem Gd.int {i : Int} (h : i.natAbs ≤ 10 ^ 42) : Gd 0 44 (.int i) := by
  refine ⟨decide_eq_true (log_le h), rfl, Nat.le_refl _, ?_⟩
  show (Str.ofString (toString i)).length ≤ 44
  rw [PySem.ofString_length]
  exact int_text_length_le10 (k := 43) (by decide) (Nat.lt_of_le_of_lt h (by decide))
/-- at most n signs, all of them plain -/
def GS (n : Nat) (s : Str) : Prop := s.length ≤ n ∧ ∀ c ∈ s.cps.toList, c < 200
theorem str_ok {n : Nat} {s : Str} (h : GS n s) : (PyData.str s).canLay0 = true := by
  show s.cps.all (· < 0x110000) = true
  rw [← Array.all_toList, List.all_eq_true]
  exact fun c hc => decide_eq_true (Nat.lt_trans (h.2 c hc) (by decide))
theorem Gd.str {n : Nat} {s : Str} (h : GS n s) : Gd 0 (10 * n + 2) (.str s) := by
  refine ⟨rfl, str_ok h, Nat.le_refl _, ?_⟩
  refine Nat.le_trans (StrLaws.reprText_len s fun c hc => Nat.lt_trans (h.2 c hc) (by decide)) ?_
  have := h.1
  omega
/-! ### a grid as a datum -/
def dRow (r : Rw) : PyData := .tuple [.str (kS r.1), .list (r.2.map dI)]
def dGr (rs : List Rw) : PyData := .list (rs.map dRow)
theorem gs_kS (b : Bool) : GS 5 (kS b) := by cases b <;> exact ⟨by decide +kernel, by decide +kernel⟩
theorem dp_els {K : PySem.W.Frag} {H : Hp} : ∀ {as : List Addr} {els : List (List Int)}, A2 (IL H) as els → DpAll K H (as.map V.ref) (els.map dI)
  | _, _, .nil => .nil
  | _, _, .cons h t => .cons (dpI h.sq) (dp_els t)
theorem dp_row {K : PySem.W.Frag} {H : Hp} {v : V} {r : Rw} (h : RwV K H v r) : Dp K H v (dRow r) := by
  obtain ⟨t, b, rfl, ht, as, hb, hA⟩ := h
  exact .tup ht (.cons (.str _) (.cons (.lst (.of hb) (dp_els hA)) .nil))
theorem dp_rows {K : PySem.W.Frag} {H : Hp} : ∀ {xs : List V} {rs : List Rw}, A2 (RwV K H) xs rs → DpAll K H xs (rs.map dRow)
  | _, _, .nil => .nil
  | _, _, .cons h t => .cons (dp_row h) (dp_rows t)
theorem dp_gr {K : PySem.W.Frag} {H : Hp} {g : Addr} {rs : List Rw} (h : GR K H g rs) : Dp K H (.ref g) (dGr rs) := let ⟨xs, hx, hA⟩ := h; .lst (.of hx) (dp_rows hA)
theorem layAll_map {α : Type} {f : α → PyData} (h : ∀ x, (f x).canLay0 = true) : ∀ xs : List α, PyData.canLayAll0 (xs.map f) = true
  | [] => rfl
  | x :: r => by
    show (PyData.canLay0 (f x) && PyData.canLayAll0 (r.map f)) = true
    rw [h, layAll_map h r]; rfl
theorem depAll_map {α : Type} {f : α → PyData} {k : Nat} (h : ∀ x, (f x).depth ≤ k) : ∀ xs : List α, PyData.depthAll (xs.map f) ≤ k
  | [] => Nat.zero_le _
  | x :: r => by
    show max (PyData.depth (f x)) (PyData.depthAll (r.map f)) ≤ k
    exact Nat.max_le.mpr ⟨h x, depAll_map h r⟩
def dEls (els : List (List Int)) : PyData := .list (els.map dI)
theorem lay_els (els : List (List Int)) : (dEls els).canLay0 = true := layAll_map lay_dI els
theorem dep_els (els : List (List Int)) : (dEls els).depth ≤ 2 := Nat.succ_le_succ (depAll_map (fun x => Nat.le_of_eq (dep_dI x)) els)
theorem lay_dRow (r : Rw) : (dRow r).canLay0 = true := by
  show (PyData.canLay0 (.str (kS r.1)) && (PyData.canLay0 (dEls r.2) && true)) = true
  rw [lay_els, str_ok (gs_kS r.1)]; rfl
theorem dep_dRow (r : Rw) : (dRow r).depth ≤ 3 := by
  show max (PyData.depth (.str (kS r.1))) (max (PyData.depth (dEls r.2)) 0) + 1 ≤ 3
  have := dep_els r.2
  have e : PyData.depth (.str (kS r.1)) = 0 := rfl
  omega
theorem shaped_dGr (rs : List Rw) : SeqAt.shaped (dGr rs) = true := by
  unfold SeqAt.shaped
  rw [show (dGr rs).canLay0 = true from layAll_map lay_dRow rs, decide_eq_true (Nat.le_trans (Nat.succ_le_succ (depAll_map dep_dRow rs)) (by decide) : (dGr rs).depth ≤ 64)]; rfl
theorem dp_rowL {K : PySem.W.Frag} {H : Hp} {a : Addr} {row : List (List Int)} (h : RowL H a row) : Dp K H (.ref a) (dEls row) := let ⟨as, ha, hA⟩ := h; .lst (.of ha) (dp_els hA)
theorem eqv_nilG {α : Type} (f : α → PyData) (xs : List α) : PyData.eqv (.list (xs.map f)) (.list []) = decide (xs = []) := by
  cases xs <;> simp [PyData.eqv, PyData.eqvAll]
/-! ### fractions as data -/
theorem Gd.intB {i : Int} (h : i.natAbs < 10 ^ 500) : Gd 0 501 (.int i) := by
  refine ⟨decide_eq_true ?_, rfl, Nat.le_refl _, ?_⟩
  · have : i.natAbs.log2 < 1919 := log_lt (Nat.lt_of_lt_of_le h (by decide +kernel)) (by decide)
    omega
  · show (Str.ofString (toString i)).length ≤ 501
    rw [PySem.ofString_length]
    exact int_text_length_le10 (k := 500) (by decide) h
def dPL (rs : List Fr) : PyData := .list (rs.map dP)
def dLL (L : List (List Fr)) : PyData := .list (L.map dPL)
theorem dp_prs {K : PySem.W.Frag} {H : Hp} : ∀ {as : List Addr} {rs : List Fr}, A2 (PR H) as rs → DpAll K H (as.map V.ref) (rs.map dP)
  | _, _, .nil => .nil
  | _, _, .cons h t => .cons h.dp (dp_prs t)
theorem dp_pl {K : PySem.W.Frag} {H : Hp} {p : Addr} {rs : List Fr} (h : PL H p rs) : Dp K H (.ref p) (dPL rs) := let ⟨_, ha, hA⟩ := h; .lst (.of ha) (dp_prs hA)
theorem dp_pls {K : PySem.W.Frag} {H : Hp} : ∀ {as : List Addr} {L : List (List Fr)}, A2 (PL H) as L → DpAll K H (as.map V.ref) (L.map dPL)
  | _, _, .nil => .nil
  | _, _, .cons h t => .cons (dp_pl h) (dp_pls t)
theorem dp_ll {K : PySem.W.Frag} {H : Hp} {p : Addr} {L : List (List Fr)} (h : LL H p L) : Dp K H (.ref p) (dLL L) := let ⟨_, ha, hA⟩ := h; .lst (.of ha) (dp_pls hA)
theorem lay_dP (r : Fr) : (dP r).canLay0 = true := rfl
theorem dep_dP (r : Fr) : (dP r).depth ≤ 1 := by
  show max 0 (max 0 0) + 1 ≤ 1
  decide
theorem lay_dPL (rs : List Fr) : (dPL rs).canLay0 = true := layAll_map lay_dP rs
theorem dep_dPL (rs : List Fr) : (dPL rs).depth ≤ 2 := Nat.succ_le_succ (depAll_map dep_dP rs)
theorem shaped_dPL (rs : List Fr) : SeqAt.shaped (dPL rs) = true := by
  unfold SeqAt.shaped
  rw [lay_dPL, decide_eq_true (Nat.le_trans (dep_dPL rs) (by decide))]; rfl
theorem lay_dLL (L : List (List Fr)) : (dLL L).canLay0 = true := layAll_map lay_dPL L
theorem dep_dLL (L : List (List Fr)) : (dLL L).depth ≤ 3 := Nat.succ_le_succ (depAll_map dep_dPL L)
theorem shaped_dLL (L : List (List Fr)) : SeqAt.shaped (dLL L) = true := by
  unfold SeqAt.shaped
  rw [lay_dLL, decide_eq_true (Nat.le_trans (dep_dLL L) (by decide))]; rfl
end K70
-- Z70
namespace K70
open PySem PySem.Spec PyProof.Rows L2
open QF (low sg gc)
theorem DefT.okX {P : Program} {w : World} {K : PySem.W.Frag} {mg : Str → Option Value} {base : Heap} {x : Str} {st : Stmt} {N ps : List Str} {k : Nat} {sp : Sp} (T : DefT K mg x st ps) (S : FnScope N ps (defScope st)) (len : ∀ vs H Q E, sp vs H Q E → vs.length = ps.length)
    (hbody : ∀ (A : Around) (outer : List Env) (s : Shared) (H : Hp) (vs : List V) (Q : VK) (E : XK), Room k (A.deeper (envOfC x (defScope st) s.heap.objs.size T.a (.ref T.c))) → sp vs H Q E →
      ∃ t, PSs (cxOf (L2.CX P w) P w K mg base N x (defScope st) T.a (.ref T.c) A outer s H E) (defBody st) t ∧ t { nx := fun _ H' => Q .non H', rt := Q } (L2.start N vs) H) : FnOk P w K mg base (L2.CX P w) (k + 1) T.a T.fd ps sp := by
  obtain ⟨a, c, fd, ⟨oc, od, dV, kV, doc, pm, an, ct, osl, rfl, lk, hcd⟩, kp, b, g⟩ := T
  exact fn_of lk hcd S len fun A outer s H vs Q E hr hsp => hbody A outer s H vs Q E hr hsp
/-! ### values that keep rows -/
def nn (L : List (List Fr)) : Nat := (L.getD 0 []).length
def dueB (rs : List Rw) (S L : List (List Fr)) : Bool :=
  if L.length = rs.length then (if rs.length = 0 then true else if nn L = 0 then false else (L.all fun l => decide (l.length = nn L)) && (List.range rs.length).all fun i => rowOk (rs.getD i (true, [])).2 (S.getD i []) L (nn L)) else false
/-- a grid of the drawn kind, exact rows alone -/
structure EG (rs : List Rw) : Prop where
  many : rs.length ≤ 16
  ex : ∀ r ∈ rs, r.1 = true
  wid : ∀ r ∈ rs, r.2.length = rs.length ∧ ∀ e ∈ r.2, VE e
/-- sources of the drawn kind -/
structure SG2 (S : List (List Fr)) : Prop where
  len : ∀ l ∈ S, l.length ≤ 12
  lw : ∀ l ∈ S, ∀ v ∈ l, v.1 = 0 → v = (0, 1)
theorem exs_all {rs : List Rw} (h : ∀ r ∈ rs, r.1 = true) : exs rs = rs.map (·.2) := by
  unfold exs
  induction rs with
  | nil => rfl
  | cons r t ih =>
    rw [List.filterMap_cons, if_pos (h r List.mem_cons_self), List.map_cons, ih fun x hx => h x (List.mem_cons_of_mem _ hx)]
section
variable {P : Program} {w : World} {K : PySem.W.Frag} {mg : Str → Option Value} {base : Heap} {Ps : List Addr}
def sp_keeps (K : PySem.W.Frag) (C1 C2 C3 : Addr) (Ps : List Addr) : Sp := fun vs H Q E => ∃ (g p b : Addr) (rs : List Rw) (S L : List (List Fr)), vs = [.ref g, .ref p, .ref b] ∧ GR K H g rs ∧ LL H p S ∧ LL H b L ∧ TGs Ps H ∧ rs.length ≤ 1000 ∧ S.length ≤ 1000 ∧ L.length ≤ 1000 ∧
  (∀ i r, rs[i]? = some r → r.1 = false → (∀ x ∈ rs.take i, x.1 = true) → Rs H E C1 i) ∧
  ((∀ r ∈ rs, r.1 = true) → (S.length ≠ rs.length → Rs H E C2 S.length) ∧ (S.length = rs.length → (∀ i l, S[i]? = some l → 12 < l.length → (∀ x ∈ S.take i, x.length ≤ 12) → Rs H E C3 i) ∧
    ((∀ l ∈ S, l.length ≤ 12) → EG rs ∧ VL L ∧ (∀ l ∈ L, l.length ≤ 1000) ∧ ∀ H', Lk H H' → TGs Ps H' → Q (.bl (dueB rs S L)) H')))
theorem ok_keeps (T : Txt K mg) (X : Errs K mg) (TB : Tbs base T Ps) : FnOk P w K mg base (L2.CX P w) 5 T.keeps.a T.keeps.fd ["grid", "sources", "lists"] (sp_keeps K X.NotExact.C X.WrongSize.C X.OutOfRange.C Ps) := by
  refine T.keeps.okX sc_keeps (fun vs H Q E h => ?_) (fun A outer s H vs Q E hr h => ?_)
  · obtain ⟨g, p, b, rs, S, L, rfl, _⟩ := h
    rfl
  · obtain ⟨g, p, b, rs, S, L, rfl, hg, hp, hb, tg, l1, l2, l3, e1, e2⟩ := h
    refine ⟨_, (pss_cons (ps_expr (pe_call (ok_need_exact T X) (hr.mono (by decide)) (by rfl) T.need_exact.g T.need_exact.F.kp T.need_exact.b .nil (passes_call (takes_of rfl rfl rfl rfl) fun _ _ _ _ h => h) (pa_cons (pv 0) pa_nil)))
      (pss_cons (ps_expr (pe_call (ok_need_sources T X) (hr.mono (by decide)) (by rfl) T.need_sources.g T.need_sources.F.kp T.need_sources.b .nil (passes_call (takes_of rfl rfl rfl rfl) fun _ _ _ _ h => h) (pa_cons (pv 0) (pa_cons (pv 1) pa_nil))))
      (pss_cons (ps_if (pt_cmpR op_ne (pe_callB call_len_seq (by rfl) T.m_len (by decide +kernel) (pa_cons (pv 2) pa_nil)) (pe_callB call_len_seq (by rfl) T.m_len (by decide +kernel) (pa_cons (pv 0) pa_nil)) (nomark _))
        (pss_one (ps_ret pe_bl))
        pss_nil)
      (pss_cons (ps_if (pt_cmpR (op_eqD hr.units) (pv 0) (pe_lst pa_nil) (nomark _))
        (pss_one (ps_ret pe_bl))
        pss_nil)
      (pss_cons (ps_set (i := 3) sc_keeps.nd rfl (.inr rfl) (pe_op op_sub (pe_callB call_len_seq (by rfl) T.m_len (by decide +kernel) (pa_cons (pe_ix ix_list (pv 2) pe_int (fun _ _ => rfl)) pa_nil)) pe_int))
      (pss_cons (ps_if (PW.pt (pw_or (pt_cmpR op_lt (pv 3) pe_int (nomark _)) (pw_or1 (pt_not (pt_val (GN.pe_allG (own := [("one", 6)]) hr sc_keeps.nd (by rfl) T.m_all TB.keeps rfl (GN.nmOk_by (blkOk_by (N := ["grid", "sources", "lists", "h", "row", "source", "one"]) (sc := defScope s_keeps) (by decide +kernel))) (pi_list (pv 2)) (fun _ _ _ _ _ _ => (pg_name (i := 6) sc_keeps.nd rfl (.inl rfl))) (fun _ _ _ _ _ _ hr2 gd2 => (pe_cmpR op_eq (pe_callB (id := "len") (r := rLenS K) call_lenC (by rfl) T.m_len (by decide +kernel) (pa_cons (pv 6) pa_nil)) (pe_op op_add (pv 3) pe_int) (nomark _)))))))))
        (pss_one (ps_ret pe_bl))
        pss_nil)
      (pss_one (ps_ret (GN.pe_allG (own := [("row", 4), ("source", 5)]) (g := gTup K 2 (gCons (gName 4) (gCons (gName 5) gNil))) hr sc_keeps.nd (by rfl) T.m_all TB.keeps rfl (GN.nmOk_by (blkOk_by (N := ["grid", "sources", "lists", "h", "row", "source", "one"]) (sc := defScope s_keeps) (by decide +kernel))) (pi_zip (by rfl) T.m_zip (pa_cons (pe_call (ok_exact_rows T) (hr.mono (by decide)) (by rfl) T.exact_rows.g T.exact_rows.F.kp T.exact_rows.b .nil pass0 (pa_cons (pv 0) pa_nil)) (pa_cons (pv 1) pa_nil))) (fun _ _ _ _ _ _ => (pg_tup rfl (pgs_cons (pg_name (i := 4) sc_keeps.nd rfl (.inl rfl)) (pgs_cons (pg_name (i := 5) sc_keeps.nd rfl (.inl rfl)) pgs_nil)))) (fun _ _ _ _ _ _ hr2 gd2 => (pe_call (ok_keeps_row T TB) (hr2.mono (by decide)) (by rfl) T.keeps_row.g T.keeps_row.kp T.keeps_row.b .nil pass0 (pa_cons (pv 4) (pa_cons (pv 5) (pa_cons (pv 2) (pa_cons (pv 3) pa_nil))))))))))))))), ?_⟩
    refine ⟨_, rfl, g, rs, rfl, hg, l1, fun ex H1 s1 => ?_, e1⟩
    obtain ⟨eW, e3⟩ := e2 ex
    refine ⟨_, rfl, _, rfl, g, p, rs, S, rfl, hg.lk (lk s1), hp.same s1, l1, l2, fun ne => (eW ne).same s1, fun el ok12 H2 s2 => ?_, fun el i l h1 h2 h3 => ((e3 el).1 i l h1 h2 h3).same s1⟩
    obtain ⟨eg, vl, lk1000, q⟩ := (e3 el).2 ok12
    have s12 := s1.trans s2
    have hg2 := hg.lk (lk s12)
    have hb2 := hb.same s12
    have hp2 := hp.same s12
    have tg2 := tg.same s12
    obtain ⟨xs, hgx, hG⟩ := id hg2
    obtain ⟨bs, hbx, hB⟩ := id hb2
    have lx := hG.len
    have lb := hB.len
    refine ⟨_, rfl, b, _, rfl, .inl (.of hbx), _, rfl, g, _, rfl, .inl (.of hgx), rfl, _, rfl, ?_⟩
    by_cases eL : L.length = rs.length
    · rw [show (!decide (V.int (((bs.map V.ref).length : Nat) : Int) = V.int ((xs.length : Nat) : Int))) = false by rw [decide_eq_true (by rw [List.length_map]; exact congrArg V.int (by omega))]; rfl]
      refine iteF ⟨_, rfl, by show 0 ≤ sizeLine; decide, fun l nl => ?_⟩
      have s3 := same_upd nl (o := .lst [])
      refine ⟨dGr rs, .list [], dp_gr (hg2.lk (lk s3)), .lst (.of upd_same) .nil, shaped_dGr rs, rfl, _, rfl, ?_⟩
      have ee : PyData.eqv (dGr rs) (.list []) = decide (rs = []) := eqv_nilG dRow rs
      rw [ee]
      have s13 := s12.trans s3
      have hg3 := hg2.lk (lk s3)
      have hb3 := hb2.same s3
      have hp3 := hp2.same s3
      have tg3 := tg2.same s3
      have hbx3 := s3 _ _ hbx
      generalize upd H2 l _ = H3 at s3 s13 hg3 hb3 hp3 tg3 hbx3
      by_cases e0 : rs = []
      · rw [decide_eq_true e0]
        have : dueB rs S L = true := by
          unfold dueB
          rw [if_pos eL, if_pos (by rw [e0]; rfl)]
        rw [this] at q
        exact iteT (q _ (lk s13) tg3)
      · rw [decide_eq_false e0]
        have lr : 0 < rs.length := List.length_pos_iff.mpr e0
        obtain ⟨b0, eb0, cs0, hc0, hC0⟩ := hB.get' (at_getF (xs := L) (i := 0) (d := []) (by omega))
        have lc0 := hC0.len
        have lN : (L.getD 0 []).length ≤ 1000 := lk1000 _ (mem_at (at_getF (xs := L) (i := 0) (d := []) (by omega)))
        refine iteF ⟨_, rfl, b, _, _, _, rfl, rfl, .of hbx3, atI_nat (j := 0) (by rw [List.getElem?_map, eb0]; rfl), b0, _, rfl, .inl (.of (s3 _ _ hc0)), _, _, rfl, rfl, ?_⟩
        rw [List.length_map, lc0]
        refine ⟨_, rfl, _, _, rfl, rfl, _, rfl, ?_⟩
        by_cases eN : nn L = 0
        · have eN' : (L.getD 0 []).length = 0 := eN
          have : dueB rs S L = false := by
            unfold dueB
            rw [if_pos eL, if_neg (by omega), if_pos eN]
          rw [this] at q
          rw [decide_eq_true (show (((L.getD 0 []).length : Nat) : Int) - 1 < 0 by omega)]
          exact iteT (iteT (q _ (lk s13) tg3))
        · have eN' : ¬ (L.getD 0 []).length = 0 := eN
          rw [decide_eq_false (show ¬ (((L.getD 0 []).length : Nat) : Int) - 1 < 0 by omega)]
          refine iteF ?_
          have lall : (∀ l ∈ L, l.length = nn L) → dueB rs S L = (List.range rs.length).all fun i => rowOk (rs.getD i (true, [])).2 (S.getD i []) L (nn L) := fun h => by
            unfold dueB
            rw [if_pos eL, if_neg (by omega), if_neg eN, List.all_eq_true.mpr fun l hl => decide_eq_true (h l hl), Bool.true_and]
          have lno : (¬ ∀ l ∈ L, l.length = nn L) → dueB rs S L = false := fun h => by
            unfold dueB
            rw [if_pos eL, if_neg (by omega), if_neg eN]
            have : (L.all fun l => decide (l.length = nn L)) = false := by
              rw [← Bool.not_eq_true, List.all_eq_true]
              exact fun z => h fun l hl => of_decide_eq_true (z l hl)
            rw [this, Bool.false_and]
          refine ⟨.ref b, rfl, b, rfl, ⟨_, .of hbx3⟩, tg3 _ TB.m2, ?_⟩
          refine GN.gn_it (walk_list (K := K) (a := b) (xs := bs.map V.ref)) (fun i G => Lk H3 G ∧ TGs Ps G ∧ ∀ x ∈ L.take i, x.length = nn L) (fun G t => ⟨lk_tab (tg3 _ TB.m2) t, tg3.tab t, fun x hx => by simp at hx⟩) (fun _ _ _ pv => .of (pv.1.lst hbx3)) (fun i x G G' hi pv y => ?_) (fun G pv => ?_)
          · obtain ⟨lk1, t, al⟩ := pv
            obtain ⟨rfl, hx⟩ := y
            obtain ⟨c, ec, rfl⟩ := ref_at hx
            obtain ⟨v, ev, cs, hc, hC⟩ := hB.get ec
            have lc := hC.len
            refine ⟨rfl, .ref c, rfl, c, _, rfl, .inl (.of (lk1.lst (s3 _ _ hc))), _, rfl, _, _, rfl, rfl, rfl, ?_⟩
            rw [List.length_map, lc]
            by_cases h : v.length = nn L
            · refine ⟨true, ?_, GN.on_t ⟨lk1, t, take_all ev al h⟩⟩
              exact congrArg V.bl (decide_eq_true (congrArg V.int (by show ((v.length : Nat) : Int) = ((nn L : Nat) : Int) - 1 + 1; omega)))
            · refine ⟨false, ?_, GN.end_f ?_⟩
              · exact congrArg V.bl (decide_eq_false fun z => h (by have z : ((v.length : Nat) : Int) = ((nn L : Nat) : Int) - 1 + 1 := V.int.inj z; omega))
              · rw [lno fun z => h (z v (mem_at ev))] at q
                exact ⟨_, rfl, iteT (q _ ((lk s13).trans lk1) t)⟩
          · obtain ⟨lk1, t, al⟩ := pv
            rw [List.length_map, lb, List.take_length] at al
            rw [lall al] at q
            refine ⟨_, rfl, iteF ?_⟩
            have lk3 : Lk H G := (lk s13).trans lk1
            refine ⟨.ref g, rfl, g, rs, rfl, hg.lk lk3, eg.many, fun r hr2 => by rw [(eg.wid r hr2).1]; exact eg.many, fun H4 p4 ys s4 n4 hy hT => ?_⟩
            rw [exs_all eg.ex] at hT
            obtain ⟨as, hp4, hR⟩ := TbR.of hy hT
            have lk4 : Lk H H4 := lk3.trans (lk s4)
            obtain ⟨ps, hps, hP⟩ := hp.lk lk4
            have hb4 := hb.lk lk4
            have tg4 := t.same s4
            have la := hR.len
            have lp := hP.len
            rw [List.length_map] at la
            refine ⟨.ref p, rfl, p4, p, as.map V.ref, ps.map V.ref, rfl, .of hp4, .of hps, tg4 _ TB.m2, ?_⟩
            refine GN.gn_it (walk_zip (K := K) (a := p4) (b := p) (xs := as.map V.ref) (ys := ps.map V.ref) (n := rs.length) (by rw [List.length_map, List.length_map]; omega)) (fun i G => Lk H4 G ∧ TGs Ps G ∧ ∀ k, k < i → rowOk (rs.getD k (true, [])).2 (S.getD k []) L (nn L) = true) (fun G t => ⟨lk_tab (tg4 _ TB.m2) t, tg4.tab t, fun k hk => absurd hk (Nat.not_lt_zero _)⟩) (fun _ _ _ pv => ⟨.of (pv.1.lst hp4), .of (pv.1.lst hps)⟩) (fun i x G5 G' hi pv y => ?_) (fun G5 pv => ?_)
            · obtain ⟨lk5, t5, al5⟩ := pv
              obtain ⟨T', x', y', rfl, nT, rfl, hx, hy2⟩ := y
              obtain ⟨a1, ea1, rfl⟩ := ref_at hx
              obtain ⟨p1, ep1, rfl⟩ := ref_at hy2
              obtain ⟨row, erow, hrow⟩ := hR.get ea1
              obtain ⟨src, esrc, hsrc⟩ := hP.get ep1
              rw [List.getElem?_map] at erow
              cases er : rs[i]? with
              | none => rw [er] at erow; cases erow
              | some r =>
                rw [er] at erow
                obtain rfl := Option.some.inj erow
                have g1 : rs.getD i (true, []) = r := getF_at er
                have g2 : S.getD i [] = src := getF_at esrc
                have sT := same_upd nT (o := .tup [.ref a1, .ref p1])
                have lk6 := lk5.trans (lk sT)
                have wd := eg.wid r (mem_at er)
                have l12 := ok12 src (mem_at esrc)
                refine ⟨T', _, rfl, .of upd_same, rfl, _, _, rfl, _, _, rfl, rfl, rfl, _, rfl, _, rfl, _, rfl, _, rfl, a1, p1, b, r.2, src, L, nn L, rfl, hrow.lk lk6, hsrc.lk lk6, hb4.lk lk6, by rw [wd.1, eL], by rw [wd.1]; exact eg.many, wd.2, al, vl, by omega, lN, by omega, t5.same sT, fun H7 lk7 t7 => ?_⟩
                cases eo : rowOk r.2 src L (nn L) with
                | true =>
                  refine ⟨_, rfl, GN.on_t ⟨lk6.trans lk7, t7, fun k hk => ?_⟩⟩
                  by_cases z : k = i
                  · rw [z, g1, g2]; exact eo
                  · exact al5 k (by omega)
                | false =>
                  have : ((List.range rs.length).all fun i => rowOk (rs.getD i (true, [])).2 (S.getD i []) L (nn L)) = false := by
                    rw [← Bool.not_eq_true, List.all_eq_true]
                    intro z
                    have := z i (List.mem_range.mpr hi)
                    rw [g1, g2, eo] at this
                    cases this
                  rw [this] at q
                  exact ⟨_, rfl, GN.end_f (q _ (lk4.trans (lk6.trans lk7)) t7)⟩
            · obtain ⟨lk5, t5, al5⟩ := pv
              have : ((List.range rs.length).all fun i => rowOk (rs.getD i (true, [])).2 (S.getD i []) L (nn L)) = true := List.all_eq_true.mpr fun k hk => al5 k (List.mem_range.mp hk)
              rw [this] at q
              exact q _ (lk4.trans lk5) t5
    · have : dueB rs S L = false := by
        unfold dueB
        rw [if_neg eL]
      rw [this] at q
      rw [show (!decide (V.int (((bs.map V.ref).length : Nat) : Int) = V.int ((xs.length : Nat) : Int))) = true by rw [decide_eq_false (by rw [List.length_map]; intro z; injection z with z; omega)]; rfl]
      exact iteT (q _ (lk s12) tg2)
end
end K70
-- V70
namespace K70
open PySem PySem.Spec PyProof.Rows L2
open QF (low sg gc)
/-! ### the law's own keeping -/
theorem acc_app (xs : List (Int × Fr)) (t : Int × Fr) : fsum (xs ++ [t]) = acc (fsum xs) t := by
  unfold fsum
  rw [List.foldl_append]; rfl
/-- a list of fractions, whatever becomes of D -/
def PD (D : Addr) (H : Hp) (v : V) (l : List Fr) : Prop := ∃ c, v = .ref c ∧ ∀ H', SameX D H H' → PL H' c l
theorem PD.mono {D : Addr} (H H' : Hp) (v : V) (l : List Fr) (s : SameX D H H') (h : PD D H v l) : PD D H' v l := let ⟨c, e, z⟩ := h; ⟨c, e, fun G sg => z G (s.trans sg)⟩
theorem pl_x {D : Addr} {H H' : Hp} {c : Addr} {l : List Fr} (n : H D = none) (h : PL H c l) (s : ∀ b o, b ≠ D → H b = some o → H' b = some o) : PL H' c l := by
  obtain ⟨as, ha, hA⟩ := h
  refine ⟨as, s _ _ (fun z => by rw [z, n] at ha; cases ha) ha, hA.mono fun a r z => s _ _ (fun w => ?_) z⟩
  have z : H a = some _ := z
  rw [w, n] at z
  cases z
/-- a fraction, whatever becomes of D -/
def RD (D : Addr) (H : Hp) (v : V) (r : Fr) : Prop := ∃ c, v = .ref c ∧ c ≠ D ∧ PR H c r
theorem RD.mono {D : Addr} (H H' : Hp) (v : V) (r : Fr) (s : SameX D H H') (h : RD D H v r) : RD D H' v r := let ⟨c, e, n, z⟩ := h; ⟨c, e, n, s _ _ n z⟩
theorem dp_pd {K : PySem.W.Frag} {D : Addr} {H : Hp} : ∀ {ys : List V} {X : List (List Fr)}, A2 (PD D H) ys X → DpAll K H ys (X.map dPL)
  | _, _, .nil => .nil
  | _, _, .cons ⟨c, e, z⟩ t => .cons (by subst e; exact dp_pl (z H fun _ _ _ w => w)) (dp_pd t)
theorem dp_rd {K : PySem.W.Frag} {D : Addr} {H : Hp} : ∀ {ys : List V} {X : List Fr}, A2 (RD D H) ys X → DpAll K H ys (X.map dP)
  | _, _, .nil => .nil
  | _, _, .cons ⟨c, e, _, z⟩ t => .cons (by subst e; exact z.dp) (dp_rd t)
theorem eqv_nilL (L : List (List Fr)) : PyData.eqv (dLL L) (.list []) = decide (L = []) := eqv_nilG dPL L
theorem eqv_nilP (L : List Fr) : PyData.eqv (dPL L) (.list []) = decide (L = []) := eqv_nilG dP L
theorem cont {G4 : Hp} {C : Prop} {B : Hp → Prop} {D : Prop} (h : ∀ G5, Same G4 G5 → C → B G5) (f : (∀ G5, Same G4 G5 → C → B G5) → D) : D := f h
def topOf (row : List (List Int)) : Int := (mlen row : Int) - 1
theorem top_is {row : List (List Int)} {m : Int} (h : m ∈ -1 :: row.map fun x => (x.length : Int) - 1) (le : ∀ y ∈ -1 :: row.map fun x => (x.length : Int) - 1, y ≤ m) : m = topOf row := by
  have a : ∀ x ∈ row, (x.length : Int) - 1 ≤ m := fun x hx => le _ (List.mem_cons_of_mem _ (List.mem_map_of_mem (f := fun x : List Int => (x.length : Int) - 1) hx))
  have b := le _ List.mem_cons_self
  have c : mlen row ≤ (m + 1).toNat := mlen_bd fun x hx => by have := a x hx; omega
  unfold topOf
  rcases List.mem_cons.mp h with rfl | h
  · omega
  · obtain ⟨x, hx, rfl⟩ := List.mem_map.mp h
    have := mlen_le x hx
    omega
def TSx (H0 : Hp) (p : Addr) (S : List (List Fr)) : TS := fun Dn σ G => ∃ (g b bR : Addr) (i : Nat) (row : List (List Int)) (src : List Fr) (v6 v7 v8 v9 : Option V),
  σ = [some (.ref g), some (.ref p), some (.ref b), some (.int (i : Nat)), some (.ref bR), some (.int (topOf row)), v6, v7, v8, v9, none, none, none] ∧ Same H0 G ∧ LL H0 p S ∧ S[i]? = some src ∧ src.length ≤ 12 ∧ (∀ v ∈ src, v.1 = 0 → v = (0, 1)) ∧
  (mlen row = 0 → (src.all fun v => decide (v = (0, 1))) = false → ∀ G5, Same G G5 → Dn.rt (.bl false) G5) ∧
  ∀ G5, Same G G5 → (mlen row = 0 → (src.all fun v => decide (v = (0, 1))) = true) → Dn.nx [some (.ref g), some (.ref p), some (.ref b), some (.int (i : Nat)), some (.ref bR), some (.int (topOf row)), v6, v7, v8, v9, none, none, none] G5
section
variable {P : Program} {w : World} {K : PySem.W.Frag} {mg : Str → Option Value} {base : Heap} {Ps : List Addr}
def sp_law_value : Sp := fun vs H Q _ => ∃ (p : Addr) (src : List Fr) (i : Nat), vs = [.ref p, .int (i : Nat)] ∧ PL H p src ∧ ∀ H' o, Same H H' → PR H' o (src.getD i (0, 1)) → Q (.ref o) H'
theorem ok_law_value (T : Txt K mg) : FnOk P w K mg base CX0 1 T.law_value.a T.law_value.fd ["source", "order"] sp_law_value := by
  refine T.law_value.F.ok sc_law_value (fun vs H Q E h => ?_) (fun cdv A outer s H vs Q E hr h => ?_)
  · obtain ⟨p, src, i, rfl, _⟩ := h
    rfl
  · obtain ⟨p, src, i, rfl, ⟨ps, hps, hP⟩, q⟩ := h
    refine ⟨_, (pss_one (ps_ret (pe_ifExp (pt_cmpR op_lt (pv 1) (pe_callB call_len_seq (by rfl) T.m_len (by decide +kernel) (pa_cons (pv 0) pa_nil)) (nomark _)) (pe_ix ix_list (pv 0) (pv 1) (fun _ _ => rfl)) (pe_tup (pa_cons pe_int (pa_cons pe_int pa_nil)))))), ?_⟩
    have lp := hP.len
    refine ⟨_, rfl, .ref p, rfl, p, _, rfl, .inl (.of hps), _, _, rfl, rfl, _, rfl, ite2 (fun h => ?_) (fun h => ?_)⟩
    · have il : i < src.length := by have := of_decide_eq_true h; rw [List.length_map] at this; omega
      obtain ⟨c, ec, hv⟩ := hP.get' (at_getF (xs := src) (d := (0, 1)) il)
      exact ⟨.ref p, rfl, _, rfl, p, _, _, _, rfl, rfl, .of hps, atI_nat (by rw [List.getElem?_map, ec]; rfl), q H c (.refl _) hv⟩
    · have il : ¬ i < src.length := fun z => h (decide_eq_true (by rw [List.length_map]; omega))
      have e0 : src.getD i (0, 1) = (0, 1) := by rw [List.getD_eq_getElem?_getD, List.getElem?_eq_none (by omega)]; rfl
      rw [e0] at q
      exact ⟨by show 2 ≤ sizeLine; decide, fun t nt => q _ t (same_upd nt) upd_same⟩
def sp_law_keeps (K : PySem.W.Frag) : Sp := fun vs H Q _ => ∃ (g p b : Addr) (rs : List Rw) (S L : List (List Fr)), vs = [.ref g, .ref p, .ref b] ∧ GR K H g rs ∧ LL H p S ∧ LL H b L ∧ EG rs ∧ SG2 S ∧ S.length = rs.length ∧ VL L ∧ L.length ≤ 1000 ∧ (∀ l ∈ L, l.length ≤ 1000) ∧ ∀ H', Same H H' → Q (.bl (dueB rs S L)) H'
theorem ok_law_keeps (T : Txt K mg) : FnOk P w K mg base CX0 4 T.law_keeps.a T.law_keeps.fd ["grid", "sources", "lists"] (sp_law_keeps K) := by
  refine T.law_keeps.F.ok sc_law_keeps (fun vs H Q E h => ?_) (fun cdv A outer s H vs Q E hr h => ?_)
  · obtain ⟨g, p, b, rs, S, L, rfl, _⟩ := h
    rfl
  · obtain ⟨g, p, b, rs, S, L, rfl, hg, hp, hb, eg, sg, lS, vl, l3, lk1000, q⟩ := h
    refine ⟨_, (pss_cons (ps_if (pt_cmpR op_ne (pe_callB call_len_seq (by rfl) T.m_len (by decide +kernel) (pa_cons (pv 2) pa_nil)) (pe_callB call_len_seq (by rfl) T.m_len (by decide +kernel) (pa_cons (pv 0) pa_nil)) (nomark _))
        (pss_one (ps_ret pe_bl))
        pss_nil)
      (pss_cons (ps_if (pt_cmpR (op_neD hr.units) (pe_lc (own := [("values", 10)]) rfl sc_law_keeps.nd (pi_list (pv 2)) (blkOk_by (N := ["grid", "sources", "lists", "i", "row", "top", "order", "total", "j", "k", "values", "element", "one"]) (sc := defScope s_law_keeps) (by decide +kernel)) (fun _ _ _ _ _ => (pg_name (i := 10) sc_law_keeps.nd rfl (.inl rfl))) (fun _ _ _ _ _ => (pts_one (PW.pt (pw_or (pt_cmpR op_lt (pe_callB (id := "len") (r := rLenS K) call_lenC (by rfl) T.m_len (by decide +kernel) (pa_cons (pv 10) pa_nil)) pe_int (nomark _)) (pw_or1 (pt_cmpR op_ne (pe_callB (id := "len") (r := rLenS K) call_lenC (by rfl) T.m_len (by decide +kernel) (pa_cons (pv 10) pa_nil)) (pe_callB (id := "len") (r := rLenS K) call_lenC (by rfl) T.m_len (by decide +kernel) (pa_cons (pe_ix (r := rIxL K) ix_list (pv 2) pe_int (fun _ _ => rfl)) pa_nil)) (nomark _))))))) (fun _ _ _ _ _ => (pv 10))) (pe_lst pa_nil) (nomark _))
        (pss_one (ps_ret pe_bl))
        pss_nil)
      (pss_cons (ps_for PassesOwn.never rfl (pi_range1 (by rfl) T.m_range (pa_cons (pe_callB call_len_seq (by rfl) T.m_len (by decide +kernel) (pa_cons (pv 0) pa_nil)) pa_nil)) (pg_name (i := 3) sc_law_keeps.nd rfl (.inl rfl))
        (pss_cons (ps_set (i := 4) sc_law_keeps.nd rfl (.inl rfl) (pe_ix ix_tup (pe_ix ix_list (pv 0) (pv 3) (fun _ _ => rfl)) pe_int (fun _ _ => rfl)))
        (pss_cons (ps_set (i := 5) sc_law_keeps.nd rfl (.inl rfl) (pe_callB (cr_max rfl) (by rfl) T.m_max (by decide +kernel) (pa_cons (pe_op op_cat (pe_lst (pa_cons (pe_un un_neg pe_int) pa_nil)) (pe_lc (own := [("element", 11)]) rfl sc_law_keeps.nd (pi_list (pv 4)) (blkOk_by (N := ["grid", "sources", "lists", "i", "row", "top", "order", "total", "j", "k", "values", "element", "one"]) (sc := defScope s_law_keeps) (by decide +kernel)) (fun _ _ _ _ _ => (pg_name (i := 11) sc_law_keeps.nd rfl (.inl rfl))) (fun _ _ _ _ _ => pts_nil) (fun _ _ _ _ _ => (pe_op op_sub (pe_callB (id := "len") (r := rLenS K) call_lenC (by rfl) T.m_len (by decide +kernel) (pa_cons (pv 11) pa_nil)) pe_int)))) pa_nil)))
        (pss_cons (ps_via (t' := TSx H p S) (ps_if (PW.pt (pw_and (pt_cmpR op_lt (pv 5) pe_int (nomark _)) (pw_and1 (pt_cmpR (op_neD hr.units) (pe_lc (own := [("one", 12)]) rfl sc_law_keeps.nd (pi_list (pe_ix ix_list (pv 1) (pv 3) (fun _ _ => rfl))) (blkOk_by (N := ["grid", "sources", "lists", "i", "row", "top", "order", "total", "j", "k", "values", "element", "one"]) (sc := defScope s_law_keeps) (by decide +kernel)) (fun _ _ _ _ _ => (pg_name (i := 12) sc_law_keeps.nd rfl (.inl rfl))) (fun _ _ _ _ _ => (pts_one (pt_cmpR op_ne (pe_ix (r := rIxT K) ix_tup (pv 12) pe_int (fun _ _ => rfl)) pe_int (nomark _)))) (fun _ _ _ _ _ => (pv 12))) (pe_lst pa_nil) (nomark _)))))
          (pss_one (ps_ret pe_bl))
          pss_nil) ?tx)
        (pss_one (ps_for PassesOwn.never rfl (pi_range1 (by rfl) T.m_range (pa_cons (pe_op op_mul (pe_op op_sub (pe_callB call_len_seq (by rfl) T.m_len (by decide +kernel) (pa_cons (pe_ix ix_list (pv 2) pe_int (fun _ _ => rfl)) pa_nil)) (pv 5)) (pe_callTy call_int1 (by rfl) T.m_int (by decide +kernel) (pa_cons (pe_cmpR op_ge (pv 5) pe_int (nomark _)) pa_nil))) pa_nil)) (pg_name (i := 6) sc_law_keeps.nd rfl (.inl rfl))
          (pss_cons (ps_set (i := 7) sc_law_keeps.nd rfl (.inl rfl) (pe_tup (pa_cons pe_int (pa_cons pe_int pa_nil))))
          (pss_cons (ps_for PassesOwn.never rfl (pi_range1 (by rfl) T.m_range (pa_cons (pe_callB call_len_seq (by rfl) T.m_len (by decide +kernel) (pa_cons (pv 0) pa_nil)) pa_nil)) (pg_name (i := 8) sc_law_keeps.nd rfl (.inl rfl))
            (pss_one (ps_for PassesOwn.never rfl (pi_range1 (by rfl) T.m_range (pa_cons (pe_callB call_len_seq (by rfl) T.m_len (by decide +kernel) (pa_cons (pe_ix ix_list (pv 4) (pv 8) (fun _ _ => rfl)) pa_nil)) pa_nil)) (pg_name (i := 9) sc_law_keeps.nd rfl (.inl rfl))
              (pss_one (ps_if (pt_cmpR op_ne (pe_ix ix_list (pe_ix ix_list (pv 4) (pv 8) (fun _ _ => rfl)) (pv 9) (fun _ _ => rfl)) pe_int (nomark _))
                (pss_one (ps_set (i := 7) sc_law_keeps.nd rfl (.inl rfl) (pe_call (ok_law_add T) (hr.mono (by decide)) (by rfl) T.law_add.g T.law_add.F.kp T.law_add.b .nil pass0 (pa_cons (pv 7) (pa_cons (pe_call (ok_law_multiply T) (hr.mono (by decide)) (by rfl) T.law_multiply.g T.law_multiply.F.kp T.law_multiply.b .nil pass0 (pa_cons (pe_tup (pa_cons (pe_ix ix_list (pe_ix ix_list (pv 4) (pv 8) (fun _ _ => rfl)) (pv 9) (fun _ _ => rfl)) (pa_cons pe_int pa_nil))) (pa_cons (pe_ix ix_list (pe_ix ix_list (pv 2) (pv 8) (fun _ _ => rfl)) (pe_op op_add (pv 9) (pv 6)) (fun _ _ => rfl)) pa_nil))) pa_nil)))))
                pss_nil)))))
          (pss_one (ps_if (pt_cmpR (op_neD hr.units) (pv 7) (pe_call (ok_law_value T) (hr.mono (by decide)) (by rfl) T.law_value.g T.law_value.F.kp T.law_value.b .nil pass0 (pa_cons (pe_ix ix_list (pv 1) (pv 3) (fun _ _ => rfl)) (pa_cons (pv 6) pa_nil))) (nomark _))
            (pss_one (ps_ret pe_bl))
            pss_nil))))))))))
      (pss_one (ps_ret pe_bl))))), ?_⟩
    case tx =>
      intro Dn σ G h
      obtain ⟨g, b, bR, i, row, src, v6, v7, v8, v9, rfl, s0, hp, esrc, sl12, slw, bad, go⟩ := h
      obtain ⟨ps, hpx, hP⟩ := hp
      obtain ⟨p1, ep1, hsrc⟩ := hP.get' esrc
      refine ⟨_, rfl, _, _, rfl, rfl, _, rfl, ?_⟩
      by_cases z : mlen row = 0
      · have tz : topOf row = -1 := by unfold topOf; rw [z]; rfl
        rw [decide_eq_true (show topOf row < 0 by omega)]
        refine iteT ?_
        obtain ⟨cs, hc, hC⟩ := hsrc.same s0
        have lc := hC.len
        refine ⟨.ref p, rfl, _, rfl, p, _, _, _, rfl, rfl, .of (s0 _ _ hpx), atI_nat (by rw [List.getElem?_map, ep1]; rfl), p1, rfl, ⟨_, .of hc⟩, fun D3 nD3 => ?_⟩
        refine lc_fm (walk_list (K := K) (a := p1) (xs := cs.map V.ref)) src (fun r => if r.1 = 0 then none else some r) (RD D3) RD.mono (by rw [List.length_map]; exact lc.symm) nD3 (fun H' s => .of (s _ _ hc)) (small' (by rw [List.length_map]; omega)) (fun j x G5 Gx ys r er sm5 hD5 y Qt Qf qt qf => ?_) (fun G5 ys sm5 hD5 hR5 => ?_)
        · obtain ⟨rfl, hx⟩ := y
          obtain ⟨c, ec, rfl⟩ := ref_at hx
          obtain ⟨r', er', hv⟩ := hC.get ec
          rw [er] at er'
          obtain rfl := Option.some.inj er'
          have hv5 := hv.same sm5
          have cD : c ≠ D3 := fun w => by rw [w] at hv; rw [show G D3 = some _ from hv] at nD3; cases nD3
          refine ⟨rfl, .ref c, rfl, c, _, _, _, rfl, rfl, hv5.sq, rfl, rfl, _, rfl, ?_⟩
          by_cases w : r.1 = 0
          · rw [w]
            exact iteF (qf (if_pos w) _ (.refl _))
          · rw [decide_eq_false (fun y => w (V.int.inj y))]
            exact iteT ⟨_, rfl, qt _ _ r (if_neg w) (.refl _) ⟨c, rfl, cD, hv5⟩⟩
        · refine ⟨by show 0 ≤ sizeLine; decide, fun l nl => ?_⟩
          have s6 := same_upd nl (o := .lst [])
          have hR6 := hR5.mono fun v x z => RD.mono _ _ v x (sx s6) z
          refine ⟨dPL _, .list [], .lst (.of (s6 _ _ hD5)) (dp_rd hR6), .lst (.of upd_same) .nil, shaped_dPL _, rfl, _, rfl, ?_⟩
          rw [eqv_nilP]
          by_cases eX : src.filterMap (fun r => if r.1 = 0 then none else some r) = []
          · rw [decide_eq_true eX]
            refine iteF (go _ (sm5.trans s6) fun _ => ?_)
            refine List.all_eq_true.mpr fun v hv => decide_eq_true (slw v hv ?_)
            refine Classical.byContradiction fun w => ?_
            have : v ∈ src.filterMap (fun r => if r.1 = 0 then none else some r) := List.mem_filterMap.mpr ⟨v, hv, if_neg w⟩
            rw [eX] at this
            cases this
          · rw [decide_eq_false eX]
            refine iteT (bad z ?_ _ (sm5.trans s6))
            rw [← Bool.not_eq_true, List.all_eq_true]
            intro w
            obtain ⟨v, hv⟩ := List.exists_mem_of_ne_nil _ eX
            obtain ⟨v', hv', e⟩ := List.mem_filterMap.mp hv
            have e2 := of_decide_eq_true (w v' hv')
            rw [e2] at e
            cases e
      · rw [decide_eq_false (show ¬ topOf row < 0 by unfold topOf; omega)]
        exact iteF (iteF (go G (.refl _) fun w => absurd w z))
    obtain ⟨xs, hgx, hG⟩ := id hg
    obtain ⟨bs, hbx, hB⟩ := id hb
    obtain ⟨ps, hpx, hP⟩ := id hp
    have lx := hG.len
    have lb := hB.len
    have lp := hP.len
    have l16 := eg.many
    refine ⟨_, rfl, b, _, rfl, .inl (.of hbx), _, rfl, g, _, rfl, .inl (.of hgx), rfl, _, rfl, ?_⟩
    by_cases eL : L.length = rs.length
    · rw [show (!decide (V.int (((bs.map V.ref).length : Nat) : Int) = V.int ((xs.length : Nat) : Int))) = false by rw [decide_eq_true (by rw [List.length_map]; exact congrArg V.int (by omega))]; rfl]
      refine iteF ⟨_, rfl, b, rfl, ⟨_, .of hbx⟩, fun D nD => ?_⟩
      refine lc_fm (walk_list (K := K) (a := b) (xs := bs.map V.ref)) L (fun l => if l.length < 1 ∨ l.length ≠ nn L then some l else none) (PD D) PD.mono (by rw [List.length_map]; exact lb.symm) nD (fun H' s => .of (s _ _ hbx)) (small' (by rw [List.length_map]; omega)) (fun i x G Gx ys l el sm hD y Qt Qf qt qf => ?_) (fun G ys sm hD hR => ?_)
      · obtain ⟨rfl, hx⟩ := y
        obtain ⟨c, ec, rfl⟩ := ref_at hx
        obtain ⟨l', el', hl'⟩ := hB.get ec
        rw [el] at el'
        obtain rfl := Option.some.inj el'
        obtain ⟨b0, eb0, cs0, hc0, hC0⟩ := hB.get' (at_getF (xs := L) (i := 0) (d := []) (by have := (List.getElem?_eq_some_iff.mp el).1; omega))
        have lc0 := hC0.len
        obtain ⟨cs, hc, hC⟩ := id hl'
        have lc := hC.len
        refine ⟨rfl, _, rfl, c, _, rfl, .inl (.of (sm _ _ hc)), _, _, rfl, rfl, _, rfl, ?_⟩
        refine ite2 (fun h => iteT ⟨_, rfl, qt _ _ l ?_ (.refl _) ⟨c, rfl, fun H' s => pl_x nD hl' ((sx sm).trans s)⟩⟩) (fun h => ⟨_, rfl, c, _, rfl, .inl (.of (sm _ _ hc)), _, rfl, b, _, _, _, rfl, rfl, .of (sm _ _ hbx), atI_nat (j := 0) (by rw [List.getElem?_map, eb0]; rfl), b0, _, rfl, .inl (.of (sm _ _ hc0)), rfl, _, rfl, ite2 (fun h2 => ⟨_, rfl, qt _ _ l ?_ (.refl _) ⟨c, rfl, fun H' s => pl_x nD hl' ((sx sm).trans s)⟩⟩) (fun h2 => qf ?_ _ (.refl _))⟩)
        · have := of_decide_eq_true h
          rw [List.length_map] at this
          rw [if_pos (.inl (by omega))]
        · have : l.length ≠ nn L := fun z => by
            have e1 : (V.int (((cs.map V.ref).length : Nat) : Int)) = V.int (((cs0.map V.ref).length : Nat) : Int) := by
              rw [List.length_map, List.length_map, lc, lc0]; exact congrArg V.int (by rw [z]; rfl)
            rw [decide_eq_true e1] at h2
            cases h2
          rw [if_pos (.inr this)]
        · have a1 : ¬ l.length < 1 := fun z => h (decide_eq_true (by rw [List.length_map]; omega))
          have a2 : ¬ l.length ≠ nn L := fun z => h2 (by
            have e1 : ¬ (V.int (((cs.map V.ref).length : Nat) : Int)) = V.int (((cs0.map V.ref).length : Nat) : Int) := fun y => by
              have y := V.int.inj y
              rw [List.length_map, List.length_map, lc, lc0] at y
              exact z (by show l.length = (L.getD 0 []).length; omega)
            rw [decide_eq_false e1]; rfl)
          rw [if_neg (fun z => z.elim a1 a2)]
      · refine ⟨by show 0 ≤ sizeLine; decide, fun l nl => ?_⟩
        have s1 := same_upd nl (o := .lst [])
        have hR1 := hR.mono fun v x z => PD.mono _ _ v x (sx s1) z
        refine ⟨dLL _, .list [], .lst (.of (s1 _ _ hD)) (dp_pd hR1), .lst (.of upd_same) .nil, shaped_dLL _, rfl, _, rfl, ?_⟩
        rw [eqv_nilL]
        have sm1 := sm.trans s1
        generalize upd G l _ = G1 at s1 sm1
        clear hR hR1
        by_cases eX : L.filterMap (fun l => if l.length < 1 ∨ l.length ≠ nn L then some l else none) = []
        · have good : ∀ l ∈ L, l.length = nn L ∧ 0 < l.length := fun l hl => by
            refine Classical.byContradiction fun z => ?_
            have : l ∈ L.filterMap (fun l => if l.length < 1 ∨ l.length ≠ nn L then some l else none) := List.mem_filterMap.mpr ⟨l, hl, if_pos (by omega)⟩
            rw [eX] at this
            cases this
          rw [decide_eq_true eX]
          refine iteF ?_
          have hbxG := sm1 _ _ hbx
          have nNL : rs.length ≠ 0 → 0 < nn L ∧ nn L ≤ 1000 := fun h => by
            have m := mem_at (at_getF (xs := L) (i := 0) (d := []) (by omega))
            have := good _ m
            have := lk1000 _ m
            exact ⟨by show 0 < (L.getD 0 []).length; omega, this⟩
          have due : rs.length ≠ 0 → dueB rs S L = (List.range rs.length).all fun i => rowOk (rs.getD i (true, [])).2 (S.getD i []) L (nn L) := fun h => by
            have := nNL h
            unfold dueB
            rw [if_pos eL, if_neg h, if_neg (by omega), List.all_eq_true.mpr fun l hl => decide_eq_true (good l hl).1, Bool.true_and]
          refine ⟨_, rfl, g, _, rfl, .inl (.of (sm1 _ _ hgx)), _, rfl, by omega, by omega, ?_⟩
          rw [Int.toNat_natCast]
          refine for_it (walk_range (lo := 0) (n := xs.length)) (fun i σ G => Same H G ∧ (∀ k, k < i → rowOk (rs.getD k (true, [])).2 (S.getD k []) L (nn L) = true) ∧ ∃ v3 v4 v5 v6 v7 v8 v9 : Option V, σ = [some (.ref g), some (.ref p), some (.ref b), v3, v4, v5, v6, v7, v8, v9, none, none, none])
            ⟨sm1, (fun _ z => absurd z (Nat.not_lt_zero _)), none, none, none, none, none, none, none, rfl⟩ (fun _ _ _ _ _ => trivial) (fun i x σ G Gx hi pv y => ?_) (fun σ G pv => ?_)
          · obtain ⟨sm2, al, v3, v4, v5, v6, v7, v8, v9, rfl⟩ := pv
            obtain ⟨rfl, rfl⟩ := y
            rw [show (fun m : Nat => V.int (0 + (m : Int))) i = V.int ((i : Nat) : Int) from congrArg V.int (Int.zero_add _)]
            have li : i < rs.length := by omega
            have no : rowOk (rs.getD i (true, [])).2 (S.getD i []) L (nn L) = false → dueB rs S L = false := fun z => by
              rw [due (by omega), ← Bool.not_eq_true, List.all_eq_true]
              intro w
              rw [w i (List.mem_range.mpr li)] at z
              cases z
            have yes : rowOk (rs.getD i (true, [])).2 (S.getD i []) L (nn L) = true → ∀ k, k < i + 1 → rowOk (rs.getD k (true, [])).2 (S.getD k []) L (nn L) = true := fun z k hk => by
              by_cases w : k = i
              · rw [w]; exact z
              · exact al k (by omega)
            obtain ⟨vr, evr, tR, bR, rfl, hqt, hrow⟩ := hG.get' (at_getF (xs := rs) (d := (true, [])) li)
            obtain ⟨p1, ep1, hsrc⟩ := hP.get' (at_getF (xs := S) (i := i) (d := []) (by omega))
            have wd := eg.wid _ (mem_at (at_getF (xs := rs) (d := (true, [])) li))
            have slw := sg.lw _ (mem_at (at_getF (xs := S) (i := i) (d := []) (by omega)))
            have sl12 := sg.len _ (mem_at (at_getF (xs := S) (i := i) (d := []) (by omega)))
            generalize (rs.getD i (true, [])).2 = row at hrow wd no yes
            have esrc := at_getF (xs := S) (i := i) (d := []) (by omega)
            generalize S.getD i [] = src at hsrc no yes slw sl12 esrc
            have lrow := wd.1
            obtain ⟨as, hra, hA⟩ := id hrow
            have la := hA.len
            refine ⟨.ref g, rfl, _, rfl, g, _, _, _, rfl, rfl, .of (sm2 _ _ hgx), atI_nat evr, tR, _, _, _, rfl, rfl, Same.seqT sm2 hqt, rfl, ?_⟩
            refine ⟨_, rfl, by show 1 ≤ sizeLine; decide, fun l1 n1 => ?_⟩
            have t1 := same_upd n1 (o := .lst [V.int (-1)])
            refine ⟨_, rfl, bR, rfl, ⟨_, .of (t1 _ _ (sm2 _ _ hra))⟩, fun D2 nD2 => ?_⟩
            refine lc_inv (walk_list (K := K) (a := bR) (xs := as.map V.ref)) (fun j G ys => ys = ((row.take j).map fun x => (x.length : Int) - 1).map V.int) nD2 (fun G s => .of (s _ _ (t1 _ _ (sm2 _ _ hra)))) (small' (by rw [List.length_map]; omega)) rfl (fun j y G3 Hx ys hj sm3 hD3 hR3 yy Qt Qf qt qf => ?_) (fun G3 ys sm3 hD3 hR3 => ?_)
            · obtain ⟨rfl, hx⟩ := yy
              obtain ⟨c, ec, rfl⟩ := ref_at hx
              obtain ⟨one, eo, hI⟩ := hA.get ec
              refine ⟨rfl, .ref c, rfl, c, _, rfl, .inl (hI.same (sm2.trans (t1.trans sm3))).sq, _, _, rfl, rfl, ?_⟩
              refine qt _ _ (.refl _) ?_
              rw [hR3, take_snoc eo, List.map_append, List.map_append, List.length_map]
              rfl
            · rw [List.length_map, la, List.take_length] at hR3
              subst hR3
              refine ⟨l1, D2, _, _, rfl, rfl, sm3 _ _ upd_same, hD3, small (by rw [List.length_map, List.length_map]; show 1 + _ ≤ _; omega), fun z nz => ?_⟩
              refine ⟨z, -1 :: row.map fun x => (x.length : Int) - 1, rfl, .of upd_same, Nat.succ_pos _, fun m hm hle => ?_⟩
              obtain rfl := top_is hm hle
              have sm4 := sm2.trans (t1.trans (sm3.trans (same_upd nz (o := .lst ([V.int (-1)] ++ (row.map fun x => (x.length : Int) - 1).map V.int)))))
              generalize upd G3 z _ = G4 at sm4
              have e0 : mlen row = 0 → rowOk row src L (nn L) = src.all fun v => decide (v = (0, 1)) := fun z => by
                unfold rowOk
                rw [if_pos z]
              refine ⟨g, b, bR, i, row, src, v6, v7, v8, v9, rfl, sm4, hp, esrc, sl12, slw, fun z w G5 s5 => ?_, fun G5 s5 hz => ?_⟩
              · rw [no (by rw [e0 z]; exact w)] at q
                exact q _ (sm4.trans s5)
              · have sm6 := sm4.trans s5
                obtain ⟨b0, eb0, cs0, hc0, hC0⟩ := hB.get' (at_getF (xs := L) (i := 0) (d := []) (by omega))
                have lc0 : cs0.length = nn L := hC0.len
                obtain ⟨N0, N1⟩ := nNL (by omega)
                have m4 : mlen row ≤ 4 := mlen_bd fun x hx => (wd.2 x hx).1
                refine ⟨.ref b, rfl, b, _, _, _, rfl, rfl, .of (sm6 _ _ hbx), atI_nat (j := 0) (by rw [List.getElem?_map, eb0]; rfl), b0, _, rfl, .inl (.of (sm6 _ _ hc0)), _, rfl, _, _, rfl, rfl, _, rfl, _, _, rfl, rfl, .inr ⟨_, rfl, ?_⟩⟩
                rw [List.length_map, lc0]
                obtain ⟨one, eone, one0, one1⟩ : ∃ f : Int, (if decide (0 ≤ topOf row) = true then (1 : Int) else 0) = f ∧ (f = 0 ∧ mlen row = 0 ∨ f = 1 ∧ 0 < mlen row) ∧ True := by
                  refine ⟨_, rfl, ?_, trivial⟩
                  unfold topOf
                  by_cases z : mlen row = 0
                  · rw [if_neg (by rw [decide_eq_false (by omega)]; decide)]; exact .inl ⟨rfl, z⟩
                  · rw [if_pos (decide_eq_true (by omega))]; exact .inr ⟨rfl, by omega⟩
                rw [eone]
                obtain ⟨cnt, ecnt⟩ : ∃ c : Nat, c = (if mlen row = 0 then 0 else nn L + 1 - mlen row) := ⟨_, rfl⟩
                have epr : ((((nn L : Nat) : Int) - topOf row) * one).toNat = cnt ∧ -(2 ^ 62) ≤ (((nn L : Nat) : Int) - topOf row) * one ∧ (((nn L : Nat) : Int) - topOf row) * one < 2 ^ 62 := by
                  unfold topOf
                  rcases one0 with ⟨rfl, z⟩ | ⟨rfl, z⟩
                  · rw [ecnt, if_pos z, Int.mul_zero]; decide
                  · rw [ecnt, if_neg (by omega), Int.mul_one]; omega
                obtain ⟨ep1', ep2, ep3⟩ := epr
                refine ⟨_, _, rfl, rfl, .inr ⟨by rcases one0 with ⟨rfl, _⟩ | ⟨rfl, _⟩ <;> decide, by rcases one0 with ⟨rfl, _⟩ | ⟨rfl, _⟩ <;> decide⟩, _, rfl, ep2, ep3, ?_⟩
                rw [ep1']
                refine for_it (walk_range (lo := 0) (n := cnt)) (fun e σ G => Same H G ∧ (∀ o, o < e → fsum (tms row L o row.length) = src.getD o (0, 1)) ∧ ∃ v6 v7 v8 v9 : Option V, σ = [some (.ref g), some (.ref p), some (.ref b), some (.int (i : Nat)), some (.ref bR), some (.int (topOf row)), v6, v7, v8, v9, none, none, none])
                  ⟨sm6, (fun _ z => absurd z (Nat.not_lt_zero _)), v6, v7, v8, v9, rfl⟩ (fun _ _ _ _ _ => trivial) (fun e x σ G Gx he pv y => ?_) (fun σ G pv => ?_)
                · obtain ⟨sm7, alo, v6, v7, v8, v9, rfl⟩ := pv
                  obtain ⟨rfl, rfl⟩ := y
                  rw [show (fun m : Nat => V.int (0 + (m : Int))) e = V.int ((e : Nat) : Int) from congrArg V.int (Int.zero_add _)]
                  have mp : 0 < mlen row := by rcases Nat.eq_zero_or_pos (mlen row) with z | z; · rw [ecnt, if_pos z] at he; omega
                                               · exact z
                  have ec : cnt = nn L + 1 - mlen row := by rw [ecnt, if_neg (by omega)]
                  have hlen : ∀ x ∈ row, x.length + e ≤ nn L := fun x hx => by have := mlen_le x hx; omega
                  have ft := tms_ft (e := e) (N := nn L) wd.2 vl (by omega) (fun l hl => (good l hl).1) hlen
                  refine ⟨by show 2 ≤ sizeLine; decide, fun t nt => ?_⟩
                  have s8 := same_upd nt (o := .tup [V.int 0, V.int 1])
                  have ht : PR (upd Gx t (.tup [V.int 0, V.int 1])) t (fsum (tms row L e 0)) := upd_same
                  have sm8 := sm7.trans s8
                  generalize upd Gx t _ = G8 at s8 ht sm8
                  refine ⟨_, rfl, g, _, rfl, .inl (.of (sm8 _ _ hgx)), _, rfl, by omega, by omega, ?_⟩
                  rw [Int.toNat_natCast]
                  refine for_it (walk_range (lo := 0) (n := xs.length)) (fun j σ G => Same H G ∧ ∃ (t : Addr) (v8 v9 : Option V), σ = [some (.ref g), some (.ref p), some (.ref b), some (.int (i : Nat)), some (.ref bR), some (.int (topOf row)), some (.int (e : Nat)), some (.ref t), v8, v9, none, none, none] ∧ PR G t (fsum (tms row L e j)))
                    ⟨sm8, t, v8, v9, rfl, ht⟩ (fun _ _ _ _ _ => trivial) (fun j x σ G Gx hj pv y => ?_) (fun σ G pv => ?_)
                  · obtain ⟨sm9, t, v8, v9, rfl, ht⟩ := pv
                    obtain ⟨rfl, rfl⟩ := y
                    rw [show (fun m : Nat => V.int (0 + (m : Int))) j = V.int ((j : Nat) : Int) from congrArg V.int (Int.zero_add _)]
                    obtain ⟨a1, ea1, hI⟩ := hA.get' (at_getF (xs := row) (i := j) (d := []) (by omega))
                    obtain ⟨bj, ebj, cj, hcj, hCj⟩ := hB.get' (at_getF (xs := L) (i := j) (d := []) (by omega))
                    have mone := mem_at (at_getF (xs := row) (i := j) (d := []) (by omega))
                    have mvs := mem_at (at_getF (xs := L) (i := j) (d := []) (by omega))
                    have lone := (wd.2 _ mone).1
                    have bone := (wd.2 _ mone).2
                    have lvs := (good _ mvs).1
                    have hl1 := hlen _ mone
                    have vvs := vl _ mvs
                    have esn := tms_snoc (row := row) (L := L) (e := e) (n := j)
                    have ftj := ft (j + 1) (by omega)
                    rw [esn] at ftj
                    generalize row.getD j [] = one at hI mone lone bone hl1 esn ftj
                    generalize L.getD j [] = vs at hCj mvs lvs vvs esn ftj
                    have lcj := hCj.len
                    refine ⟨.ref bR, rfl, _, rfl, bR, _, _, _, rfl, rfl, .of (sm9 _ _ hra), atI_nat (by rw [List.getElem?_map, ea1]; rfl), a1, _, rfl, .inl (hI.same sm9).sq, _, rfl, by omega, by rw [List.length_map]; omega, ?_⟩
                    rw [Int.toNat_natCast, List.length_map]
                    refine for_it (walk_range (lo := 0) (n := one.length)) (fun k σ G => Same H G ∧ ∃ (t : Addr) (v9 : Option V), σ = [some (.ref g), some (.ref p), some (.ref b), some (.int (i : Nat)), some (.ref bR), some (.int (topOf row)), some (.int (e : Nat)), some (.ref t), some (.int (j : Nat)), v9, none, none, none] ∧ PR G t (fsum (tms row L e j ++ tmE one vs e k)))
                      ⟨sm9, t, v9, rfl, by rw [show tmE one vs e 0 = [] from rfl, List.append_nil]; exact ht⟩ (fun _ _ _ _ _ => trivial) (fun k x σ G Gx hk pv y => ?_) (fun σ G pv => ?_)
                    · obtain ⟨sk, t, v9, rfl, ht⟩ := pv
                      obtain ⟨rfl, rfl⟩ := y
                      rw [show (fun m : Nat => V.int (0 + (m : Int))) k = V.int ((k : Nat) : Int) from congrArg V.int (Int.zero_add _)]
                      have hIk := hI.same sk
                      refine ⟨.ref bR, rfl, _, rfl, bR, _, _, _, rfl, rfl, .of (sk _ _ hra), atI_nat (by rw [List.getElem?_map, ea1]; rfl), _, rfl, a1, _, _, _, rfl, rfl, hIk.sq, at_map' (ns := one) (m := k) rfl hk, rfl, _, rfl, ?_⟩
                      by_cases z : cf one k = 0
                      · rw [show (!decide (V.int (cf one k) = V.int 0)) = false by rw [z]; rfl]
                        refine iteF ⟨sk, t, _, rfl, ?_⟩
                        rw [tmE_no z]
                        exact ht
                      · rw [show (!decide (V.int (cf one k) = V.int 0)) = true by rw [decide_eq_false (fun y => z (V.int.inj y))]; rfl]
                        have ftk : ∀ x ∈ tms row L e j ++ tmE one vs e k, Ft x := fun x hx => by
                          rcases List.mem_append.mp hx with hx | hx
                          · exact ftj x (List.mem_append_left _ hx)
                          · exact tmE_ft bone vvs (by omega) (by omega) x hx
                        have l4 : (tms row L e j).length ≤ 4 * j := tms_len (fun x hx => (wd.2 x hx).1) j
                        have l5 := tmE_len one vs e k
                        obtain ⟨f1, f2, f3, f4⟩ := fsum_facts ftk (by rw [List.length_append]; omega)
                        obtain ⟨c1, ec1, hv⟩ := hCj.get' (at_getF (xs := vs) (i := k + e) (d := (0, 1)) (by omega))
                        have rv := vvs _ (mem_at (at_getF (xs := vs) (i := k + e) (d := (0, 1)) (by omega)))
                        refine iteT ⟨.ref t, rfl, .ref bR, rfl, _, rfl, bR, _, _, _, rfl, rfl, .of (sk _ _ hra), atI_nat (by rw [List.getElem?_map, ea1]; rfl), _, rfl, a1, _, _, _, rfl, rfl, hIk.sq, at_map' (ns := one) (m := k) rfl hk, by show 2 ≤ sizeLine; decide, fun u nu => ?_⟩
                        have su := same_upd nu (o := .tup [V.int (cf one k), V.int 1])
                        have sku := sk.trans su
                        have bk := bone _ (mem_at (at_map hk))
                        refine ⟨.ref b, rfl, _, rfl, b, _, _, _, rfl, rfl, .of (sku _ _ hbx), atI_nat (by rw [List.getElem?_map, ebj]; rfl), _, rfl, _, rfl, _, _, rfl, rfl, bj, _, _, _, rfl, rfl, .of (sku _ _ hcj), (by
                          rw [show ((k : Nat) : Int) + ((e : Nat) : Int) = ((k + e : Nat) : Int) by omega]
                          exact atI_nat (by rw [List.getElem?_map, ec1]; rfl)), u, c1, _, _, _, _, rfl, .of upd_same, (hv.same sku).sq, ⟨by decide, by have := rv.2.1; omega, Nat.lt_of_le_of_lt bk (by decide +kernel), by decide +kernel, Nat.lt_of_le_of_lt rv.1 (by decide +kernel), Nat.lt_of_le_of_lt rv.2.2 (by decide +kernel)⟩, fun m nm => ?_⟩
                        have d1 := QF.low_abs (n := cf one k * (vs.getD (k + e) (0, 1)).1) (d := 1 * (vs.getD (k + e) (0, 1)).2) (by have := rv.2.1; omega)
                        have d2 := QF.low_ne (n := cf one k * (vs.getD (k + e) (0, 1)).1) (d := 1 * (vs.getD (k + e) (0, 1)).2) (by have := rv.2.1; omega)
                        have sm' := su.trans (same_upd nm (o := .tup [.int (low (cf one k * (vs.getD (k + e) (0, 1)).1) (1 * (vs.getD (k + e) (0, 1)).2)).1, .int (low (cf one k * (vs.getD (k + e) (0, 1)).1) (1 * (vs.getD (k + e) (0, 1)).2)).2]))
                        have q1 : (cf one k * (vs.getD (k + e) (0, 1)).1).natAbs < 2 ^ 200 := by
                          rw [Int.natAbs_mul]
                          exact Nat.lt_of_le_of_lt (Nat.mul_le_mul bk rv.1) (by decide +kernel)
                        have q2 : (1 * (vs.getD (k + e) (0, 1)).2).natAbs < 2 ^ 30 := by
                          rw [Int.one_mul]
                          exact Nat.lt_of_le_of_lt rv.2.2 (by decide +kernel)
                        refine ⟨t, m, _, _, _, _, rfl, (ht.same sm').sq, .of upd_same, ⟨by omega, d2, f1, f3, Nat.lt_of_le_of_lt d1.1 q1, Nat.lt_of_le_of_lt d1.2 q2⟩, fun o no => ?_⟩
                        refine ⟨(sk.trans sm').trans (same_upd no), o, _, rfl, ?_⟩
                        rw [tmE_yes z, ← List.append_assoc, acc_app]
                        exact upd_same
                    · obtain ⟨sk, t, v9, rfl, ht⟩ := pv
                      refine ⟨sk, t, _, _, rfl, ?_⟩
                      rw [esn]
                      exact ht
                  · obtain ⟨sm9, t, v8, v9, rfl, ht⟩ := pv
                    rw [show xs.length = row.length by omega] at ht
                    refine ⟨.ref t, rfl, .ref p, rfl, _, rfl, p, _, _, _, rfl, rfl, .of (sm9 _ _ hpx), atI_nat (by rw [List.getElem?_map, ep1]; rfl), _, rfl, p1, src, e, rfl, hsrc.same sm9, fun H2 o s2 ho => ?_⟩
                    refine ⟨dP _, dP _, (ht.same s2).dp, ho.dp, rfl, rfl, _, rfl, ?_⟩
                    rw [eqv_dP2]
                    by_cases w : fsum (tms row L e row.length) = src.getD e (0, 1)
                    · rw [decide_eq_true w]
                      refine iteF ⟨sm9.trans s2, fun o ho => ?_, _, _, _, _, rfl⟩
                      by_cases w2 : o = e
                      · rw [w2]; exact w
                      · exact alo o (by omega)
                    · rw [decide_eq_false w]
                      have : rowOk row src L (nn L) = false := by
                        unfold rowOk
                        rw [if_neg (by omega), ← Bool.not_eq_true, List.all_eq_true]
                        intro y
                        exact w (of_decide_eq_true (y e (List.mem_range.mpr (by omega))))
                      rw [no this] at q
                      exact iteT (q _ (sm9.trans s2))
                · obtain ⟨sm7, alo, v6, v7, v8, v9, rfl⟩ := pv
                  refine ⟨sm7, yes ?_, _, _, _, _, _, _, _, rfl⟩
                  by_cases z : mlen row = 0
                  · rw [e0 z]; exact hz z
                  · unfold rowOk
                    rw [if_neg z]
                    refine List.all_eq_true.mpr fun o ho => decide_eq_true (alo o ?_)
                    rw [ecnt, if_neg z]
                    exact List.mem_range.mp ho
          · obtain ⟨sm2, al, v3, v4, v5, v6, v7, v8, v9, rfl⟩ := pv
            have : dueB rs S L = true := by
              by_cases h : rs.length = 0
              · unfold dueB
                rw [if_pos eL, if_pos h]
              · rw [due h]
                exact List.all_eq_true.mpr fun k hk => al k (by have := List.mem_range.mp hk; omega)
            rw [this] at q
            exact q _ sm2
        · rw [decide_eq_false eX]
          have : dueB rs S L = false := by
            obtain ⟨l, hl⟩ := List.exists_mem_of_ne_nil _ eX
            obtain ⟨l', hl', e⟩ := List.mem_filterMap.mp hl
            have ln : 0 < L.length := List.length_pos_of_mem hl'
            unfold dueB
            rw [if_pos eL, if_neg (by omega)]
            by_cases eN : nn L = 0
            · rw [if_pos eN]
            · rw [if_neg eN]
              have : (L.all fun l => decide (l.length = nn L)) = false := by
                rw [← Bool.not_eq_true, List.all_eq_true]
                intro z
                have e2 := of_decide_eq_true (z l' hl')
                rw [if_neg (by omega)] at e
                cases e
              rw [this, Bool.false_and]
          rw [this] at q
          exact iteT (q _ sm1)
    · have : dueB rs S L = false := by
        unfold dueB
        rw [if_neg eL]
      rw [this] at q
      rw [show (!decide (V.int (((bs.map V.ref).length : Nat) : Int) = V.int ((xs.length : Nat) : Int))) = true by rw [decide_eq_false (by rw [List.length_map]; intro z; injection z with z; omega)]; rfl]
      exact iteT (q _ (.refl _))
end
end K70
-- X70
namespace K70
open PySem PySem.Spec PyProof.Rows L2
open QF (low sg gc)
/-! ### what is drawn -/
section
variable {P : Program} {w : World} {K : PySem.W.Frag} {mg : Str → Option Value} {base : Heap} {Ps : List Addr}
/-- a row, whatever becomes of D -/
def RX (K : PySem.W.Frag) (D : Addr) (H : Hp) (v : V) (r : Rw) : Prop := ∀ H', SameX D H H' → RwV K H' v r
theorem RX.mono {K : PySem.W.Frag} {D : Addr} {H H' : Hp} {v : V} {r : Rw} (s : SameX D H H') (h : RX K D H v r) : RX K D H' v r := fun G sg => h G (s.trans sg)
def GX (K : PySem.W.Frag) (H : Hp) (g : Addr) (rs : List Rw) : Prop := ∃ xs, H g = some (.lst xs) ∧ A2 (RX K g H) xs rs
theorem GX.gr {K : PySem.W.Frag} {H : Hp} {g : Addr} {rs : List Rw} (h : GX K H g rs) : GR K H g rs := let ⟨xs, a, b⟩ := h; ⟨xs, a, b.mono fun _ _ z => z H fun _ _ _ w => w⟩
theorem GX.same {K : PySem.W.Frag} {H H' : Hp} {g : Addr} {rs : List Rw} (s : Same H H') (h : GX K H g rs) : GX K H' g rs := let ⟨xs, a, b⟩ := h; ⟨xs, s _ _ a, b.mono fun _ _ z => z.mono (sx s)⟩
def sp_law_exact_grid (K : PySem.W.Frag) : Sp := fun vs H Q _ => ∃ (a : Addr) (ds : List Int) (k : Int) (many : Nat), vs = [.ref a, .int k, .int (many : Nat)] ∧ IL H a ds ∧ 0 ≤ k ∧ many ≤ 16 ∧ ∀ H' g rs, Same H H' → H g = none → GX K H' g rs → EG rs → rs.length = many → Q (.ref g) H'
theorem ok_law_exact_grid (T : Txt K mg) : FnOk P w K mg base CX0 5 T.law_exact_grid.a T.law_exact_grid.fd ["draws", "k", "many"] (sp_law_exact_grid K) := by
  refine T.law_exact_grid.F.ok sc_law_exact_grid (fun vs H Q E h => ?_) (fun cdv A outer s H vs Q E hr h => ?_)
  · obtain ⟨a, ds, k, many, rfl, _⟩ := h
    rfl
  · obtain ⟨a, ds, k, many, rfl, ha, hk, hm, q⟩ := h
    refine ⟨_, (pss_cons (ps_set (i := 3) sc_law_exact_grid.nd rfl (.inr rfl) (pe_lst pa_nil))
      (pss_cons (ps_for PassesOwn.never rfl (pi_list (pe_call (ok_law_grid T) (hr.mono (by decide)) (by rfl) T.law_grid.g T.law_grid.F.kp T.law_grid.b .nil pass0 (pa_cons (pv 0) (pa_cons (pv 1) (pa_cons (pv 2) pa_nil))))) (pg_tup rfl (pgs_cons (pg_name (i := 4) sc_law_exact_grid.nd rfl (.inl rfl)) (pgs_cons (pg_name (i := 5) sc_law_exact_grid.nd rfl (.inl rfl)) pgs_nil)))
        (pss_cons (ps_if (pt_cmpR op_eq (pv 4) pe_str (nomark _))
          (pss_one (ps_setLc (i := 5) (own := [("at", 6)]) rfl sc_law_exact_grid.nd rfl rfl (sw_true rfl rfl rfl (by decide +kernel)) (pi_range1 (by rfl) T.m_range (pa_cons (pv 2) pa_nil)) (blkOk_by (N := ["draws", "k", "many", "grid", "kind", "row", "at"]) (sc := defScope s_law_exact_grid) (by decide +kernel)) (fun _ _ _ _ _ => (pg_name (i := 6) sc_law_exact_grid.nd rfl (.inl rfl))) (fun _ _ _ _ _ => pts_nil) (fun _ _ _ _ _ => (pe_call (ok_law_element T) (hr.mono (by decide)) (by rfl) T.law_element.g T.law_element.F.kp T.law_element.b .nil pass0 (pa_cons (pv 0) (pa_cons (pe_op op_add (pe_op op_add (pe_op op_add (pv 1) pe_int) (pe_op op_mul pe_int (pe_callB (id := "len") (r := rLenS K) call_lenC (by rfl) T.m_len (by decide +kernel) (pa_cons (pv 3) pa_nil)))) (pe_op op_mul pe_int (pv 6))) (pa_cons pe_int pa_nil)))))))
          pss_nil)
        (pss_one (ps_expr (pe_bm PySem.F.plainAttrs_list PySem.F.slot_list_append PySem.F.type_list_append mt_append (pv 3) (pa_cons (pe_tup (pa_cons pe_str (pa_cons (pv 5) pa_nil))) pa_nil))))))
      (pss_one (ps_ret (pv 3))))), ?_⟩
    refine ⟨by show 0 ≤ sizeLine; decide, fun D nD => ?_⟩
    have s0 := same_upd nD (o := .lst [])
    have hD0 : upd H D (.lst []) D = some (.lst []) := upd_same
    generalize upd H D _ = H0 at s0 hD0
    refine ⟨.ref a, rfl, _, rfl, _, rfl, a, ds, k, many, rfl, ha.same s0, hk, hm, fun H1 g rs s1 hN vg _ => ⟨g, rfl, ?_⟩⟩
    obtain ⟨ng, xs, hg, hA⟩ := hN
    have la := hA.len
    have gD : g ≠ D := fun z => by rw [z, hD0] at ng; cases ng
    have lr := vg.1
    refine ⟨⟨xs, .of hg⟩, ?_⟩
    refine for_it (walk_list (K := K) (a := g) (xs := xs)) (fun i σ G => Same H G ∧ SameX D H1 G ∧ ∃ (v4 v5 : Option V) (ys : List V) (zs : List Rw), σ = [some (.ref a), some (.int k), some (.int (many : Nat)), some (.ref D), v4, v5, none] ∧ G D = some (.lst ys) ∧ A2 (RX K D G) ys zs ∧ zs.length = i ∧ ∀ r ∈ zs, r.1 = true ∧ VR many r.2)
      ⟨s0.trans s1, (fun _ _ _ z => z), none, none, [], [], rfl, s1 _ _ hD0, .nil, rfl, (fun _ z => by cases z)⟩ (fun _ _ _ _ z => .of (z.2.1 _ _ gD hg)) (fun i x σ G Gx hi pv y => ?_) (fun σ G pv => ?_)
    · obtain ⟨sm, sx1, v4, v5, ys, zs, rfl, hD, hZ, lz, hz⟩ := pv
      obtain ⟨rfl, hx⟩ := y
      obtain ⟨r, er, t, b, rfl, cl⟩ := hA.get hx
      have ext : ∀ G2, SameX D Gx G2 → ∀ c o, H0 c = none → H1 c = some o → G2 c = some o := fun G2 s2 c o n h => by
        have cD : c ≠ D := fun z => by rw [z, hD0] at n; cases n
        exact s2 _ _ cD (sx1 _ _ cD h)
      obtain ⟨ht, hrow⟩ := cl Gx (ext Gx fun _ _ _ z => z)
      have vr := vg.2 r (mem_at er)
      have lzs := hZ.len
      refine ⟨t, _, rfl, ht, rfl, _, _, rfl, _, _, rfl, rfl, ?_⟩
      refine ⟨_, rfl, rfl, _, rfl, ?_⟩
      cases er1 : r.1 with
      | true =>
        refine iteF ?_
        refine ⟨_, rfl, .inl ⟨rfl, _, .of hD⟩, _, rfl, by show 2 ≤ sizeLine; decide, fun t2 n2 => ?_⟩
        have s5 := same_upd n2 (o := .tup [.str "exact", .ref b])
        have tD : t2 ≠ D := fun z => by rw [z, hD] at n2; cases n2
        refine ⟨D, _, _, rfl, rfl, s5 _ _ hD, small' (by omega), ?_⟩
        refine ⟨same_over (sm.trans s5) nD, (sx1.trans (sx s5)).trans SameX.put, _, _, ys ++ [.ref t2], zs ++ [(true, r.2)], rfl, upd_same, A2.snoc (fun G' sg => ⟨t2, b, rfl, .of (sg _ _ tD (by rw [upd_ne tD]; exact upd_same)), (fun G3 s3 => (cl G3 (ext G3 s3)).2) G' (((sx s5).trans SameX.put).trans sg)⟩) (hZ.mono fun _ _ z => z.mono (((sx s5).trans SameX.put))), by rw [List.length_append, lz]; rfl, fun x hx => ?_⟩
        rcases List.mem_append.mp hx with hx | hx
        · exact hz x hx
        · rw [List.mem_singleton.mp hx]; exact ⟨rfl, vr⟩
      | false =>
        refine iteT ?_
        refine ⟨_, rfl, (many : Nat), rfl, by omega, by omega, fun C nC => ?_⟩
        rw [Int.toNat_natCast]
        have hac := ha.same sm
        refine lc_inv (walk_range (lo := 0) (n := many)) (fun i G ys => ∃ (as : List Addr) (es : List (List Int)), ys = as.map V.ref ∧ RN C Gx G as es ∧ es.length = i ∧ ∀ e ∈ es, VE e ∧ NZ e) nC (fun _ _ => trivial) (small' (by omega)) ⟨[], [], rfl, .nil, rfl, fun _ z => by cases z⟩ (fun i2 x2 G2 Hx2 ys2 hi2 sm2 hC hR y2 Qt Qf qt qf => ?_) (fun G2 ys2 sm2 hC hR => ?_)
        · obtain ⟨rfl, rfl⟩ := y2
          obtain ⟨as, es, rfl, hrn, hlen, hve⟩ := hR
          refine ⟨rfl, .ref a, rfl, _, rfl, _, _, rfl, rfl, _, rfl, D, _, rfl, .inl (.of (sm2 _ _ hD)), _, _, rfl, rfl, .inl ⟨by decide, by decide⟩, _, _, rfl, rfl, _, rfl, _, _, rfl, rfl, .inl ⟨by decide, by decide⟩, _, _, rfl, rfl, a, ds, _, _, rfl, hac.same sm2, by omega, fun G3 p ns s3 np hp ve nz => ?_⟩
          have pC : p ≠ C := fun z => by rw [z, hC] at np; cases np
          exact qt _ _ s3 ⟨as ++ [p], es ++ [ns], by rw [List.map_append]; rfl, hrn.snoc s3 pC (sm2.free np) hp, by rw [List.length_append, hlen]; rfl, ve_snoc hve ⟨ve, nz⟩⟩
        · obtain ⟨as, es, rfl, hrn, hlen, hve⟩ := hR
          obtain ⟨as2, hC2, hrow2⟩ := hrn.row hC
          have hD2 := sm2 _ _ hD
          have CD : C ≠ D := fun z => by rw [z, hD] at nC; cases nC
          have rowx : ∀ G3, SameX D G2 G3 → RowL G3 C es := fun G3 s3 => ⟨as2, s3 _ _ CD hC2, hrow2.mono fun e ns z => s3 _ _ (fun w => by rw [w, hD] at z; cases z.1) z.2⟩
          refine ⟨_, rfl, .inl ⟨rfl, _, .of hD2⟩, _, rfl, by show 2 ≤ sizeLine; decide, fun t2 n2 => ?_⟩
          have s5 := same_upd n2 (o := .tup [.str "exact", .ref C])
          have tD : t2 ≠ D := fun z => by rw [z, hD2] at n2; cases n2
          refine ⟨D, _, _, rfl, rfl, s5 _ _ hD2, small' (by omega), ?_⟩
          refine ⟨same_over ((sm.trans sm2).trans s5) nD, ((sx1.trans (sx sm2)).trans (sx s5)).trans SameX.put, _, _, ys ++ [.ref t2], zs ++ [(true, es)], rfl, upd_same, A2.snoc (fun G' sg => ⟨t2, C, rfl, .of (sg _ _ tD (by rw [upd_ne tD]; exact upd_same)), rowx G' (((sx s5).trans SameX.put).trans sg)⟩) (hZ.mono fun _ _ z => z.mono ((sx sm2).trans ((sx s5).trans SameX.put))), by rw [List.length_append, lz]; rfl, fun x hx => ?_⟩
          rcases List.mem_append.mp hx with hx | hx
          · exact hz x hx
          · rw [List.mem_singleton.mp hx]; exact ⟨rfl, ⟨hlen, fun e he => (hve e he).1⟩⟩
    · obtain ⟨sm, sx1, v4, v5, ys, zs, rfl, hD, hZ, lz, hz⟩ := pv
      refine ⟨_, rfl, q G D zs sm nD ⟨ys, hD, hZ⟩ ⟨by omega, fun r hr => (hz r hr).1, fun r hr => ?_⟩ (by omega)⟩
      have := (hz r hr).2
      exact ⟨by rw [this.1]; omega, this.2⟩
end
end K70
-- W70
set_option exponentiation.threshold 3000

namespace K70
open PySem PySem.Spec PyProof.Rows L2
open QF (low sg gc)
/-! ### sources -/
def Vok (v : Fr) : Prop := v.1.natAbs < 2 ^ 1640 ∧ 0 < v.2 ∧ v.2.natAbs < 2 ^ 1500 ∧ low v.1 v.2 = v
theorem vok_low {n d : Int} (h1 : n.natAbs < 2 ^ 1640) (h : d ≠ 0) (h2 : d.natAbs < 2 ^ 1500) : Vok (low n d) := by
  have a := QF.low_abs (n := n) h
  obtain ⟨_, _, _, _, pos, _⟩ := QF.low_is (n := n) h
  exact ⟨Nat.lt_of_le_of_lt a.1 h1, pos, Nat.lt_of_le_of_lt a.2 h2, QF.low_low h⟩
theorem vok_zero {v : Fr} (h : Vok v) (e : v.1 = 0) : v = (0, 1) := by
  have h4 := h.2.2.2
  rw [e] at h4
  rw [← h4, ← QF.low_one 0]
  exact QF.low_eq (by have := h.2.1; omega) (by decide) (by omega)
theorem vok01 : Vok (0, 1) := ⟨by decide, by decide, by decide, QF.low_one 0⟩
structure Src (S : List (List Fr)) : Prop where
  len : ∀ l ∈ S, l.length ≤ 12
  ok : ∀ l ∈ S, ∀ v ∈ l, Vok v
theorem Src.sg {S : List (List Fr)} (h : Src S) : SG2 S := ⟨h.len, fun l hl v hv e => vok_zero (h.ok l hl v hv) e⟩
/-- a list of fractions at D, all new -/
def RP (D : Addr) (B H : Hp) (a : Addr) (r : Fr) : Prop := a ≠ D ∧ B a = none ∧ PR H a r
theorem RP.mono {D : Addr} {B H H' : Hp} {a : Addr} {r : Fr} (s : SameX D H H') (h : RP D B H a r) : RP D B H' a r := ⟨h.1, h.2.1, s _ _ h.1 h.2.2⟩
theorem rp_all {D : Addr} {B H H' : Hp} {as : List Addr} {rs : List Fr} (s : SameX D H H') (h : A2 (RP D B H) as rs) : A2 (RP D B H') as rs := h.mono fun _ _ z => z.mono s
/-- is new, all of it -/
def PN (B H : Hp) (v : V) (l : List Fr) : Prop := ∃ c, v = .ref c ∧ B c = none ∧ ∃ as : List Addr, H c = some (.lst (as.map V.ref)) ∧ A2 (fun a r => B a = none ∧ PR H a r) as l
theorem PN.pl {B H : Hp} {v : V} {l : List Fr} (h : PN B H v l) : ∃ c, v = .ref c ∧ PL H c l := let ⟨c, e, _, as, a, b⟩ := h; ⟨c, e, as, a, b.mono fun _ _ z => z.2⟩
/-- new behind B, of which D is a part that changes -/
theorem PN.pd {B H : Hp} {D : Addr} {v : V} {l : List Fr} (h : PN B H v l) (hD : B D ≠ none) : PD D H v l := by
  obtain ⟨c, e, n, as, a, b⟩ := h
  exact ⟨c, e, fun G s => ⟨as, s _ _ (fun z => hD (z ▸ n)) a, b.mono fun x r z => s _ _ (fun w => hD (w ▸ z.1)) z.2⟩⟩
theorem ll_of {H : Hp} {D : Addr} {ys : List V} {S : List (List Fr)} (hD : H D = some (.lst ys)) (h : A2 (PD D H) ys S) : LL H D S := by
  obtain ⟨as, rfl, r⟩ := a2_ref (h.mono fun v l (z : PD D H v l) => let ⟨c, e, w⟩ := z; (⟨c, e, w H fun _ _ _ y => y⟩ : ∃ c, v = .ref c ∧ PL H c l))
  exact ⟨as, hD, r⟩
theorem menu_at2 {x y r : Int} (h0 : 0 ≤ r) (h1 : r < 2) : ∃ t, atI [V.int x, V.int y] r = some (.int t) ∧ (t = x ∨ t = y) := by
  have : r = 0 ∨ r = 1 := by omega
  rcases this with rfl | rfl
  · exact ⟨x, rfl, .inl rfl⟩
  · exact ⟨y, rfl, .inr rfl⟩
section
variable {P : Program} {w : World} {K : PySem.W.Frag} {mg : Str → Option Value} {base : Heap} {Ps : List Addr}
def sp_law_sources : Sp := fun vs H Q _ => ∃ (a : Addr) (ds : List Int) (k : Int) (many : Nat), vs = [.ref a, .int k, .int (many : Nat)] ∧ IL H a ds ∧ 0 ≤ k ∧ many ≤ 16 ∧ ∀ H' p S, Same H H' → LL H' p S → S.length = many → Src S → Q (.ref p) H'
theorem ok_law_sources (T : Txt K mg) : FnOk P w K mg base CX0 4 T.law_sources.a T.law_sources.fd ["draws", "k", "many"] sp_law_sources := by
  refine T.law_sources.F.ok sc_law_sources (fun vs H Q E h => ?_) (fun cdv A outer s H vs Q E hr h => ?_)
  · obtain ⟨a, ds, k, many, rfl, _⟩ := h
    rfl
  · obtain ⟨a, ds, k, many, rfl, ha, hk, hm, q⟩ := h
    refine ⟨_, (pss_cons (ps_set (i := 3) sc_law_sources.nd rfl (.inl rfl) (pe_lst pa_nil))
      (pss_cons (ps_for PassesOwn.never rfl (pi_range1 (by rfl) T.m_range (pa_cons (pv 2) pa_nil)) (pg_name (i := 4) sc_law_sources.nd rfl (.inr rfl))
        (pss_cons (ps_set (i := 5) sc_law_sources.nd rfl (.inl rfl) (pe_call (ok_law_mix T) (hr.mono (by decide)) (by rfl) T.law_mix.g T.law_mix.F.kp T.law_mix.b .nil pass0 (pa_cons (pv 0) (pa_cons (pe_op op_add (pv 1) (pe_op op_mul pe_int (pv 4))) (pa_cons (pe_ix ix_list (pe_lst (pa_cons pe_int (pa_cons pe_int pa_nil))) (pe_call (ok_law_mix T) (hr.mono (by decide)) (by rfl) T.law_mix.g T.law_mix.F.kp T.law_mix.b .nil pass0 (pa_cons (pv 0) (pa_cons (pe_op op_add (pe_op op_add (pv 1) (pe_op op_mul pe_int (pv 4))) pe_int) (pa_cons pe_int pa_nil)))) (fun _ _ => rfl)) pa_nil)))))
        (pss_one (ps_expr (pe_bm PySem.F.plainAttrs_list PySem.F.slot_list_append PySem.F.type_list_append mt_append (pv 3) (pa_cons (pe_lc (own := [("at", 6)]) rfl sc_law_sources.nd (pi_range1 (by rfl) T.m_range (pa_cons (pv 5) pa_nil)) (blkOk_by (N := ["draws", "k", "many", "out", "i", "size", "at"]) (sc := defScope s_law_sources) (by decide +kernel)) (fun _ _ _ _ _ => (pg_name (i := 6) sc_law_sources.nd rfl (.inl rfl))) (fun _ _ _ _ _ => pts_nil) (fun _ _ _ _ _ => (pe_call (ok_law_drawn_ratio T) (hr.mono (by decide)) (by rfl) T.law_drawn_ratio.g T.law_drawn_ratio.F.kp T.law_drawn_ratio.b .nil pass0 (pa_cons (pv 0) (pa_cons (pe_op op_add (pe_op op_add (pe_op op_add (pv 1) (pe_op op_mul pe_int (pv 4))) pe_int) (pe_op op_mul pe_int (pv 6))) pa_nil))))) pa_nil))))))
      (pss_one (ps_ret (pv 3))))), ?_⟩
    refine ⟨by show 0 ≤ sizeLine; decide, fun D nD => ?_⟩
    have s0 := same_upd nD (o := .lst [])
    refine ⟨_, rfl, (many : Nat), rfl, by omega, by omega, ?_⟩
    rw [Int.toNat_natCast]
    refine for_it (walk_range (lo := 0) (n := many)) (fun i σ G => Same H G ∧ ∃ (v4 v5 : Option V) (ys : List V) (S : List (List Fr)), σ = [some (.ref a), some (.int k), some (.int (many : Nat)), some (.ref D), v4, v5, none] ∧ G D = some (.lst ys) ∧ A2 (PD D G) ys S ∧ S.length = i ∧ Src S)
      ⟨s0, none, none, [], [], rfl, upd_same, .nil, rfl, ⟨(fun _ z => by cases z), (fun _ z => by cases z)⟩⟩ (fun _ _ _ _ _ => trivial) (fun i x σ G Gx hi pv y => ?_) (fun σ G pv => ?_)
    · obtain ⟨sm, v4, v5, ys, S, rfl, hD, hS, lS, src⟩ := pv
      obtain ⟨rfl, rfl⟩ := y
      rw [show (fun m : Nat => V.int (0 + (m : Int))) i = V.int ((i : Nat) : Int) from congrArg V.int (Int.zero_add _)]
      refine ⟨.ref a, rfl, _, rfl, _, rfl, _, _, rfl, rfl, .inl ⟨by decide, by decide⟩, _, _, rfl, rfl, by show 2 ≤ sizeLine; decide, fun l1 n1 => ?_⟩
      have s1 := same_upd n1 (o := .lst [.int 4, .int 13])
      refine ⟨.ref a, rfl, _, rfl, _, rfl, _, _, rfl, rfl, .inl ⟨by decide, by decide⟩, _, _, rfl, rfl, _, _, rfl, rfl, a, ds, _, 2, rfl, ha.same (sm.trans s1), by omega, by decide, fun r r0 r1 => ?_⟩
      obtain ⟨t, et, ht⟩ := menu_at2 (x := 4) (y := 13) r0 r1
      refine ⟨l1, _, _, _, rfl, rfl, .of upd_same, et, a, ds, _, t, rfl, ha.same (sm.trans s1), by omega, by rcases ht with rfl | rfl <;> decide, fun sz z0 z1 => ?_⟩
      have z12 : sz < 13 := by rcases ht with rfl | rfl <;> omega
      obtain ⟨n, rfl⟩ : ∃ n : Nat, sz = (n : Int) := ⟨sz.toNat, by omega⟩
      generalize upd Gx l1 _ = G1 at s1
      have sm1 := sm.trans s1
      have hD1 := s1 _ _ hD
      have hS1 := hS.mono fun v l z => PD.mono _ _ v l (sx s1) z
      refine ⟨_, rfl, .inl ⟨rfl, _, .of hD1⟩, _, rfl, (n : Nat), rfl, by omega, by omega, fun D2 nD2 => ?_⟩
      rw [Int.toNat_natCast]
      refine lc_inv (walk_range (lo := 0) (n := n)) (fun j G ys => ∃ (as : List Addr) (rs : List Fr), ys = as.map V.ref ∧ A2 (RP D2 G1 G) as rs ∧ rs.length = j ∧ ∀ v ∈ rs, Vok v) nD2 (fun _ _ => trivial) (small' (by omega)) ⟨[], [], rfl, .nil, rfl, fun _ z => by cases z⟩ (fun j x G2 Hx ys2 hj sm2 hD2 hR y Qt Qf qt qf => ?_) (fun G2 ys2 sm2 hD2 hR => ?_)
      · obtain ⟨rfl, rfl⟩ := y
        obtain ⟨as, rs, rfl, hA, lr, hv⟩ := hR
        refine ⟨rfl, .ref a, rfl, _, rfl, _, rfl, _, _, rfl, rfl, .inl ⟨by decide, by decide⟩, _, _, rfl, rfl, _, _, rfl, rfl, _, rfl, _, _, rfl, rfl, .inl ⟨by decide, by decide⟩, _, _, rfl, rfl, a, ds, _, rfl, (ha.same sm1).same sm2, by omega, fun H3 o nn d s3 no b1 b2 b3 => ?_⟩
        have s4 := s3.trans (same_upd no (o := .tup [.int (low nn d).1, .int (low nn d).2]))
        have oD : o ≠ D2 := fun z => by have := s3 _ _ hD2; rw [← z, no] at this; cases this
        refine qt _ _ s4 ⟨as ++ [o], rs ++ [low nn d], by rw [List.map_append]; rfl, A2.snoc ⟨oD, (sm2.trans s3).free no, by rw [show PR _ o _ = (upd (upd H3 o (.tup [.int (low nn d).1, .int (low nn d).2])) D2 _ o = _) from rfl, upd_ne oD]; exact upd_same⟩ (rp_all ((sx s4).trans SameX.put) hA), by rw [List.length_append, lr]; rfl, fun v hv2 => ?_⟩
        rcases List.mem_append.mp hv2 with h | h
        · exact hv v h
        · rw [List.mem_singleton.mp h]
          exact vok_low (Nat.lt_of_le_of_lt b1 (by decide +kernel)) (by omega) (Nat.lt_of_le_of_lt (show d.natAbs ≤ 10 ^ 6 by omega) (by decide +kernel))
      · obtain ⟨as, rs, rfl, hA, lr, hv⟩ := hR
        have pn : PN G1 G2 (.ref D2) rs := ⟨D2, rfl, nD2, as, hD2, hA.mono fun _ _ z => ⟨z.2.1, z.2.2⟩⟩
        have hD3 := sm2 _ _ hD1
        have lys := hS.len
        refine ⟨D, _, _, rfl, rfl, hD3, small' (by omega), ?_⟩
        have pd := pn.pd (D := D) (by rw [hD1]; exact fun z => nomatch z)
        refine ⟨same_over (sm1.trans sm2) nD, _, _, ys ++ [.ref D2], S ++ [rs], rfl, upd_same, A2.snoc (PD.mono _ _ _ _ SameX.put pd) (hS1.mono fun v l z => PD.mono _ _ v l ((sx sm2).trans SameX.put) z), by rw [List.length_append, lS]; rfl, ⟨fun l hl => ?_, fun l hl => ?_⟩⟩
        · rcases List.mem_append.mp hl with h | h
          · exact src.len l h
          · rw [List.mem_singleton.mp h, lr]; omega
        · rcases List.mem_append.mp hl with h | h
          · exact src.ok l h
          · rw [List.mem_singleton.mp h]; exact hv
    · obtain ⟨sm, v4, v5, ys, S, rfl, hD, hS, lS, src⟩ := pv
      exact ⟨_, rfl, q G D S sm (ll_of hD hS) lS src⟩
end
end K70
-- J70
set_option exponentiation.threshold 3000

namespace K70
open PySem PySem.Spec PyProof.Rows L2
open QF (low sg gc)
/-! ### fitting sources -/
theorem fsum_64 {ts : List (Int × Fr)} (h : ∀ t ∈ ts, Ft t) (l : ts.length ≤ 64) : Vok (fsum ts) := by
  obtain ⟨a, b, c⟩ := ft_den h
  rw [fsum_is a c]
  have b2 : (ftB ts).natAbs ≤ (10 ^ 7) ^ 64 := Nat.le_trans b (Nat.pow_le_pow_right (by decide) l)
  refine vok_low (Nat.lt_of_le_of_lt (tops_le h) ?_) (by omega) (Nat.lt_of_le_of_lt b2 (by decide +kernel))
  refine Nat.lt_of_le_of_lt (Nat.mul_le_mul l (Nat.mul_le_mul_left _ (Nat.mul_le_mul_left _ b2))) ?_
  decide +kernel
section
variable {P : Program} {w : World} {K : PySem.W.Frag} {mg : Str → Option Value} {base : Heap} {Ps : List Addr}
def sp_law_fitting (K : PySem.W.Frag) : Sp := fun vs H Q _ => ∃ (g b : Addr) (rs : List Rw) (L : List (List Fr)) (N : Nat), vs = [.ref g, .ref b] ∧ GR K H g rs ∧ LL H b L ∧ EG rs ∧ VL L ∧ L.length = rs.length ∧ (∀ l ∈ L, l.length = N) ∧ N ≤ 12 ∧ ∀ H' p S, Same H H' → LL H' p S → S.length = rs.length → Src S → Q (.ref p) H'
theorem ok_law_fitting (T : Txt K mg) : FnOk P w K mg base CX0 4 T.law_fitting.a T.law_fitting.fd ["grid", "lists"] (sp_law_fitting K) := by
  refine T.law_fitting.F.ok sc_law_fitting (fun vs H Q E h => ?_) (fun cdv A outer s H vs Q E hr h => ?_)
  · obtain ⟨g, b, rs, L, N, rfl, _⟩ := h
    rfl
  · obtain ⟨g, b, rs, L, N, rfl, hg, hb, eg, vl, lL, hN, n12, q⟩ := h
    refine ⟨_, (pss_cons (ps_set (i := 2) sc_law_fitting.nd rfl (.inl rfl) (pe_lst pa_nil))
      (pss_cons (ps_for PassesOwn.never rfl (pi_list (pv 0)) (pg_tup rfl (pgs_cons (pg_name (i := 3) sc_law_fitting.nd rfl (.inl rfl)) (pgs_cons (pg_name (i := 4) sc_law_fitting.nd rfl (.inl rfl)) pgs_nil)))
        (pss_cons (ps_set (i := 5) sc_law_fitting.nd rfl (.inl rfl) (pe_callB (cr_max rfl) (by rfl) T.m_max (by decide +kernel) (pa_cons (pe_op op_cat (pe_lst (pa_cons (pe_un un_neg pe_int) pa_nil)) (pe_lc (own := [("element", 11)]) rfl sc_law_fitting.nd (pi_list (pv 4)) (blkOk_by (N := ["grid", "lists", "sources", "kind", "row", "top", "source", "order", "total", "j", "k", "element"]) (sc := defScope s_law_fitting) (by decide +kernel)) (fun _ _ _ _ _ => (pg_name (i := 11) sc_law_fitting.nd rfl (.inl rfl))) (fun _ _ _ _ _ => pts_nil) (fun _ _ _ _ _ => (pe_op op_sub (pe_callB (id := "len") (r := rLenS K) call_lenC (by rfl) T.m_len (by decide +kernel) (pa_cons (pv 11) pa_nil)) pe_int)))) pa_nil)))
        (pss_cons (ps_set (i := 6) sc_law_fitting.nd rfl (.inl rfl) (pe_lst pa_nil))
        (pss_cons (ps_for PassesOwn.never rfl (pi_range1 (by rfl) T.m_range (pa_cons (pe_op op_mul (pe_callB (call_max2 rfl) (by rfl) T.m_max (by decide +kernel) (pa_cons pe_int (pa_cons (pe_callB (call_min2 rfl) (by rfl) T.m_min (by decide +kernel) (pa_cons pe_int (pa_cons (pe_op op_sub (pe_callB call_len_seq (by rfl) T.m_len (by decide +kernel) (pa_cons (pe_ix ix_list (pe_op op_cat (pv 1) (pe_lst (pa_cons (pe_lst pa_nil) pa_nil))) pe_int (fun _ _ => rfl)) pa_nil)) (pv 5)) pa_nil))) pa_nil))) (pe_callTy call_int1 (by rfl) T.m_int (by decide +kernel) (pa_cons (pe_cmpR op_ge (pv 5) pe_int (nomark _)) pa_nil))) pa_nil)) (pg_name (i := 7) sc_law_fitting.nd rfl (.inl rfl))
          (pss_cons (ps_set (i := 8) sc_law_fitting.nd rfl (.inl rfl) (pe_tup (pa_cons pe_int (pa_cons pe_int pa_nil))))
          (pss_cons (ps_for PassesOwn.never rfl (pi_range1 (by rfl) T.m_range (pa_cons (pe_callB call_len_seq (by rfl) T.m_len (by decide +kernel) (pa_cons (pv 4) pa_nil)) pa_nil)) (pg_name (i := 9) sc_law_fitting.nd rfl (.inl rfl))
            (pss_one (ps_for PassesOwn.never rfl (pi_range1 (by rfl) T.m_range (pa_cons (pe_callB call_len_seq (by rfl) T.m_len (by decide +kernel) (pa_cons (pe_ix ix_list (pv 4) (pv 9) (fun _ _ => rfl)) pa_nil)) pa_nil)) (pg_name (i := 10) sc_law_fitting.nd rfl (.inl rfl))
              (pss_one (ps_set (i := 8) sc_law_fitting.nd rfl (.inl rfl) (pe_call (ok_law_add T) (hr.mono (by decide)) (by rfl) T.law_add.g T.law_add.F.kp T.law_add.b .nil pass0 (pa_cons (pv 8) (pa_cons (pe_call (ok_law_multiply T) (hr.mono (by decide)) (by rfl) T.law_multiply.g T.law_multiply.F.kp T.law_multiply.b .nil pass0 (pa_cons (pe_tup (pa_cons (pe_ix ix_list (pe_ix ix_list (pv 4) (pv 9) (fun _ _ => rfl)) (pv 10) (fun _ _ => rfl)) (pa_cons pe_int pa_nil))) (pa_cons (pe_ix ix_list (pe_ix ix_list (pv 1) (pv 9) (fun _ _ => rfl)) (pe_op op_add (pv 10) (pv 7)) (fun _ _ => rfl)) pa_nil))) pa_nil))))))))
          (pss_one (ps_expr (pe_bm PySem.F.plainAttrs_list PySem.F.slot_list_append PySem.F.type_list_append mt_append (pv 6) (pa_cons (pv 8) pa_nil)))))))
        (pss_one (ps_expr (pe_bm PySem.F.plainAttrs_list PySem.F.slot_list_append PySem.F.type_list_append mt_append (pv 2) (pa_cons (pv 6) pa_nil))))))))
      (pss_one (ps_ret (pv 2))))), ?_⟩
    obtain ⟨xs, hgx, hG⟩ := id hg
    obtain ⟨bs, hbx, hB⟩ := id hb
    have lx := hG.len
    have lb := hB.len
    have l16 := eg.many
    refine ⟨by show 0 ≤ sizeLine; decide, fun D nD => ?_⟩
    have s0 := same_upd nD (o := .lst [])
    refine ⟨_, rfl, g, rfl, ⟨_, .of (s0 _ _ hgx)⟩, ?_⟩
    refine for_it (walk_list (K := K) (a := g) (xs := xs)) (fun i σ G => Same H G ∧ ∃ (v3 v4 v5 v6 v7 v8 v9 v10 : Option V) (ys : List V) (S : List (List Fr)), σ = [some (.ref g), some (.ref b), some (.ref D), v3, v4, v5, v6, v7, v8, v9, v10, none] ∧ G D = some (.lst ys) ∧ A2 (PD D G) ys S ∧ S.length = i ∧ Src S)
      ⟨s0, none, none, none, none, none, none, none, none, [], [], rfl, upd_same, .nil, rfl, ⟨(fun _ z => by cases z), (fun _ z => by cases z)⟩⟩ (fun _ _ _ _ z => .of (z.1 _ _ hgx)) (fun i x σ G Gx hi pv y => ?_) (fun σ G pv => ?_)
    · obtain ⟨sm, v3, v4, v5, v6, v7, v8, v9, v10, ys, S, rfl, hD, hS, lS, src⟩ := pv
      obtain ⟨rfl, hx⟩ := y
      obtain ⟨r, er, tR, bR, rfl, hqt, hrow⟩ := hG.get hx
      have li : i < rs.length := (List.getElem?_eq_some_iff.mp er).1
      have wd := eg.wid r (mem_at er)
      generalize r.2 = row at hrow wd
      obtain ⟨as, hra, hA⟩ := id hrow
      have la := hA.len
      refine ⟨tR, _, rfl, Same.seqT sm hqt, rfl, _, _, rfl, _, _, rfl, rfl, ?_⟩
      refine ⟨_, rfl, by show 1 ≤ sizeLine; decide, fun l1 n1 => ?_⟩
      have t1 := same_upd n1 (o := .lst [V.int (-1)])
      refine ⟨_, rfl, bR, rfl, ⟨_, .of (t1 _ _ (sm _ _ hra))⟩, fun D2 nD2 => ?_⟩
      refine lc_inv (walk_list (K := K) (a := bR) (xs := as.map V.ref)) (fun j G ys => ys = ((row.take j).map fun x => (x.length : Int) - 1).map V.int) nD2 (fun G s => .of (s _ _ (t1 _ _ (sm _ _ hra)))) (small' (by rw [List.length_map]; omega)) rfl (fun j y G3 Hx ys hj sm3 hD3 hR3 yy Qt Qf qt qf => ?_) (fun G3 ys3 sm3 hD3 hR3 => ?_)
      · obtain ⟨rfl, hx⟩ := yy
        obtain ⟨c, ec, rfl⟩ := ref_at hx
        obtain ⟨one, eo, hI⟩ := hA.get ec
        refine ⟨rfl, .ref c, rfl, c, _, rfl, .inl (hI.same (sm.trans (t1.trans sm3))).sq, _, _, rfl, rfl, ?_⟩
        refine qt _ _ (.refl _) ?_
        rw [hR3, take_snoc eo, List.map_append, List.map_append, List.length_map]
        rfl
      · rw [List.length_map, la, List.take_length] at hR3
        subst hR3
        refine ⟨l1, D2, _, _, rfl, rfl, sm3 _ _ upd_same, hD3, small (by rw [List.length_map, List.length_map]; show 1 + _ ≤ _; omega), fun z nz => ?_⟩
        refine ⟨z, -1 :: row.map fun x => (x.length : Int) - 1, rfl, .of upd_same, Nat.succ_pos _, fun m hm hle => ?_⟩
        obtain rfl := top_is hm hle
        have s4 := t1.trans (sm3.trans (same_upd nz (o := .lst ([V.int (-1)] ++ (row.map fun x => (x.length : Int) - 1).map V.int))))
        generalize upd G3 z _ = G4 at s4
        have sm4 := sm.trans s4
        refine ⟨by show 0 ≤ sizeLine; decide, fun C nC => ?_⟩
        have s5 := same_upd nC (o := .lst [])
        have hC5 : upd G4 C (.lst []) C = some (.lst []) := upd_same
        have nCx := s4.free nC
        generalize upd G4 C _ = G5 at s5 hC5
        have sm5 := sm4.trans s5
        have s15 := s4.trans s5
        obtain ⟨b0, eb0, cs0, hc0, hC0⟩ := hB.get' (at_getF (xs := L) (i := 0) (d := []) (by omega))
        have lc0 : cs0.length = N := by rw [hC0.len]; exact hN _ (mem_at (at_getF (xs := L) (i := 0) (d := []) (by omega)))
        have m4 : mlen row ≤ 4 := mlen_bd fun x hx => (wd.2 x hx).1
        refine ⟨_, rfl, by show 0 ≤ sizeLine; decide, fun e1 ne1 => ⟨by show 1 ≤ sizeLine; decide, fun e2 ne2 => ?_⟩⟩
        have s6 := (same_upd ne1 (o := .lst [])).trans (same_upd ne2 (o := .lst [.ref e1]))
        refine ⟨b, e2, _, _, rfl, rfl, s6 _ _ (sm5 _ _ hbx), upd_same, small (by rw [List.length_map]; show _ + 1 ≤ _; omega), fun e3 ne3 => ?_⟩
        have s7 := s6.trans (same_upd ne3 (o := .lst (bs.map V.ref ++ [.ref e1])))
        have at0' : atI (bs.map V.ref ++ [.ref e1]) 0 = some (.ref b0) := atI_nat (j := 0) (by rw [List.getElem?_append_left (by rw [List.length_map]; omega), List.getElem?_map, eb0]; rfl)
        have sm7 := sm5.trans s7
        have s17 := s15.trans s7
        refine ⟨e3, _, _, _, rfl, rfl, .of upd_same, at0', b0, _, rfl, .inl (.of (sm7 _ _ hc0)), ?_⟩
        have hC7 := s7 _ _ hC5
        generalize upd (upd (upd G5 e1 _) e2 _) e3 _ = G7 at s7 sm7 s17 hC7
        rw [List.length_map, lc0]
        refine ⟨_, rfl, _, _, rfl, rfl, _, _, rfl, _, _, rfl, _, rfl, _, _, rfl, rfl, .inr ⟨_, rfl, ?_⟩⟩
        obtain ⟨u, eu, u0, u12, uN⟩ : ∃ u : Int, (if (if (N : Int) - topOf row < 12 then (N : Int) - topOf row else 12) > 0 then (if (N : Int) - topOf row < 12 then (N : Int) - topOf row else 12) else 0) = u ∧ 0 ≤ u ∧ u ≤ 12 ∧ (0 < u → u ≤ N - topOf row) := by
          refine ⟨_, rfl, ?_, ?_, ?_⟩ <;> (repeat' split) <;> omega
        obtain ⟨f, ef, ff⟩ : ∃ f : Int, (if decide (0 ≤ topOf row) = true then (1 : Int) else 0) = f ∧ (f = 0 ∨ f = 1 ∧ 0 ≤ topOf row) := by
          refine ⟨_, rfl, ?_⟩
          by_cases z : 0 ≤ topOf row
          · rw [if_pos (decide_eq_true z)]; exact .inr ⟨rfl, z⟩
          · rw [if_neg (by rw [decide_eq_false z]; decide)]; exact .inl rfl
        rw [eu, ef]
        obtain ⟨cnt, ec, c12, cN⟩ : ∃ cnt : Nat, u * f = (cnt : Int) ∧ cnt ≤ 12 ∧ (0 < cnt → 0 ≤ topOf row ∧ (cnt : Int) ≤ N - topOf row) := by
          rcases ff with rfl | ⟨rfl, z⟩
          · exact ⟨0, by rw [Int.mul_zero]; rfl, by decide, fun z => absurd z (by decide)⟩
          · exact ⟨u.toNat, by rw [Int.mul_one]; omega, by omega, fun w => ⟨z, by have := uN (by omega); omega⟩⟩
        refine ⟨_, _, rfl, rfl, .inl ⟨by omega, by omega⟩, _, rfl, by rw [ec]; omega, by rw [ec]; omega, ?_⟩
        rw [ec, Int.toNat_natCast]
        have hD7 := s17 _ _ hD
        refine for_it (walk_range (lo := 0) (n := cnt)) (fun e σ G => Same H G ∧ SameX C G7 G ∧ ∃ (v7 v8 v9 v10 : Option V) (cs : List Addr) (vs : List Fr), σ = [some (.ref g), some (.ref b), some (.ref D), some (.str (kS r.1)), some (.ref bR), some (.int (topOf row)), some (.ref C), v7, v8, v9, v10, none] ∧ G C = some (.lst (cs.map V.ref)) ∧ A2 (RP C Gx G) cs vs ∧ vs.length = e ∧ ∀ v ∈ vs, Vok v)
          ⟨sm7, (fun _ _ _ z => z), v7, v8, v9, v10, [], [], rfl, hC7, .nil, rfl, (fun _ z => by cases z)⟩ (fun _ _ _ _ _ => trivial) (fun e x σ G Gy he pv y => ?_) (fun σ G pv => ?_)
        · obtain ⟨sm8, sx8, v7, v8, v9, v10, cs, vs, rfl, hC8, hA8, lvs, hv8⟩ := pv
          obtain ⟨rfl, rfl⟩ := y
          rw [show (fun m : Nat => V.int (0 + (m : Int))) e = V.int ((e : Nat) : Int) from congrArg V.int (Int.zero_add _)]
          obtain ⟨top0, cN'⟩ := cN (by omega)
          have hlen : ∀ x ∈ row, x.length + e ≤ N := fun x hx => by have := mlen_le x hx; unfold topOf at cN' top0; omega
          refine ⟨by show 2 ≤ sizeLine; decide, fun t nt => ?_⟩
          have s9 := same_upd nt (o := .tup [V.int 0, V.int 1])
          have ht : PR (upd Gy t (.tup [V.int 0, V.int 1])) t (fsum []) := upd_same
          have nCt : C ≠ t := fun z => by rw [← z, hC8] at nt; cases nt
          have nGt : Gx t = none := by
            cases w : Gx t with
            | none => rfl
            | some o => rw [sx8 _ _ nCt.symm (s17 _ _ w)] at nt; cases nt
          have hbG := fun (G : Hp) (s : Same Gy G) => s _ _ (sm8 _ _ hbx)
          have hrG := fun (G : Hp) (s : Same Gy G) => s _ _ (sm8 _ _ hra)
          refine ⟨_, rfl, bR, _, rfl, .inl (.of (hrG _ s9)), _, rfl, by omega, by rw [List.length_map]; omega, ?_⟩
          rw [Int.toNat_natCast, List.length_map]
          refine for_it (walk_range (lo := 0) (n := as.length)) (fun j σ G => Same Gy G ∧ ∃ (t : Addr) (v9 v10 : Option V) (ts : List (Int × Fr)), σ = [some (.ref g), some (.ref b), some (.ref D), some (.str (kS r.1)), some (.ref bR), some (.int (topOf row)), some (.ref C), some (.int (e : Nat)), some (.ref t), v9, v10, none] ∧ PR G t (fsum ts) ∧ ts.length ≤ 4 * j ∧ (∀ x ∈ ts, Ft x) ∧ Gx t = none ∧ t ≠ C)
            ⟨s9, t, v9, v10, [], rfl, ht, Nat.le_refl _, (fun _ z => by cases z), nGt, nCt.symm⟩ (fun _ _ _ _ _ => trivial) (fun j x σ G Gz hj pv y => ?_) (fun σ G pv => ?_)
          · obtain ⟨sj, t, v9, v10, ts, rfl, ht, lts, hts, n1, n2⟩ := pv
            obtain ⟨rfl, rfl⟩ := y
            rw [show (fun m : Nat => V.int (0 + (m : Int))) j = V.int ((j : Nat) : Int) from congrArg V.int (Int.zero_add _)]
            obtain ⟨a1, ea1, hI⟩ := hA.get' (at_getF (xs := row) (i := j) (d := []) (by omega))
            obtain ⟨bj, ebj, cj, hcj, hCj⟩ := hB.get' (at_getF (xs := L) (i := j) (d := []) (by have := wd.1; omega))
            have mone := mem_at (at_getF (xs := row) (i := j) (d := []) (by omega))
            have mvs := mem_at (at_getF (xs := L) (i := j) (d := []) (by have := wd.1; omega))
            have lone := (wd.2 _ mone).1
            have bone := (wd.2 _ mone).2
            have lvs2 := hN _ mvs
            have hl1 := hlen _ mone
            have vvs := vl _ mvs
            have lcj := hCj.len
            generalize row.getD j [] = one at hI mone lone bone hl1
            generalize L.getD j [] = vs2 at hCj mvs lvs2 vvs lcj
            have smj := sm8.trans sj
            refine ⟨.ref bR, rfl, _, rfl, bR, _, _, _, rfl, rfl, .of (hrG _ sj), atI_nat (by rw [List.getElem?_map, ea1]; rfl), a1, _, rfl, .inl (hI.same smj).sq, _, rfl, by omega, by rw [List.length_map]; omega, ?_⟩
            rw [Int.toNat_natCast, List.length_map]
            refine for_it (walk_range (lo := 0) (n := one.length)) (fun k σ G => Same Gy G ∧ ∃ (t : Addr) (v10 : Option V) (ts : List (Int × Fr)), σ = [some (.ref g), some (.ref b), some (.ref D), some (.str (kS r.1)), some (.ref bR), some (.int (topOf row)), some (.ref C), some (.int (e : Nat)), some (.ref t), some (.int (j : Nat)), v10, none] ∧ PR G t (fsum ts) ∧ ts.length ≤ 4 * j + k ∧ (∀ x ∈ ts, Ft x) ∧ Gx t = none ∧ t ≠ C)
              ⟨sj, t, v10, ts, rfl, ht, lts, hts, n1, n2⟩ (fun _ _ _ _ _ => trivial) (fun k x σ G Gw hk pv y => ?_) (fun σ G pv => ?_)
            · obtain ⟨sk, t, v10, ts, rfl, ht, lts, hts, n1, n2⟩ := pv
              obtain ⟨rfl, rfl⟩ := y
              rw [show (fun m : Nat => V.int (0 + (m : Int))) k = V.int ((k : Nat) : Int) from congrArg V.int (Int.zero_add _)]
              have smk := sm8.trans sk
              have hIk := hI.same smk
              have ljr := wd.1
              obtain ⟨f1, f2, f3, f4⟩ := fsum_facts hts (by omega)
              obtain ⟨c1, ec1, hv⟩ := hCj.get' (at_getF (xs := vs2) (i := k + e) (d := (0, 1)) (by omega))
              have rv := vvs _ (mem_at (at_getF (xs := vs2) (i := k + e) (d := (0, 1)) (by omega)))
              refine ⟨.ref t, rfl, .ref bR, rfl, _, rfl, bR, _, _, _, rfl, rfl, .of (hrG _ sk), atI_nat (by rw [List.getElem?_map, ea1]; rfl), _, rfl, a1, _, _, _, rfl, rfl, hIk.sq, at_map' (ns := one) (m := k) rfl hk, by show 2 ≤ sizeLine; decide, fun u nu => ?_⟩
              have su := same_upd nu (o := .tup [V.int (cf one k), V.int 1])
              have sku := smk.trans su
              have bk := bone _ (mem_at (at_map hk))
              refine ⟨.ref b, rfl, _, rfl, b, _, _, _, rfl, rfl, .of (sku _ _ hbx), atI_nat (by rw [List.getElem?_map, ebj]; rfl), _, rfl, _, rfl, _, _, rfl, rfl, bj, _, _, _, rfl, rfl, .of (sku _ _ hcj), (by
                rw [show ((k : Nat) : Int) + ((e : Nat) : Int) = ((k + e : Nat) : Int) by omega]
                exact atI_nat (by rw [List.getElem?_map, ec1]; rfl)), u, c1, _, _, _, _, rfl, .of upd_same, (hv.same sku).sq, ⟨by decide, by have := rv.2.1; omega, Nat.lt_of_le_of_lt bk (by decide +kernel), by decide +kernel, Nat.lt_of_le_of_lt rv.1 (by decide +kernel), Nat.lt_of_le_of_lt rv.2.2 (by decide +kernel)⟩, fun m nm => ?_⟩
              have d1 := QF.low_abs (n := cf one k * (vs2.getD (k + e) (0, 1)).1) (d := 1 * (vs2.getD (k + e) (0, 1)).2) (by have := rv.2.1; omega)
              have d2 := QF.low_ne (n := cf one k * (vs2.getD (k + e) (0, 1)).1) (d := 1 * (vs2.getD (k + e) (0, 1)).2) (by have := rv.2.1; omega)
              have sm' := su.trans (same_upd nm (o := .tup [.int (low (cf one k * (vs2.getD (k + e) (0, 1)).1) (1 * (vs2.getD (k + e) (0, 1)).2)).1, .int (low (cf one k * (vs2.getD (k + e) (0, 1)).1) (1 * (vs2.getD (k + e) (0, 1)).2)).2]))
              have q1 : (cf one k * (vs2.getD (k + e) (0, 1)).1).natAbs < 2 ^ 200 := by
                rw [Int.natAbs_mul]
                exact Nat.lt_of_le_of_lt (Nat.mul_le_mul bk rv.1) (by decide +kernel)
              have q2 : (1 * (vs2.getD (k + e) (0, 1)).2).natAbs < 2 ^ 30 := by
                rw [Int.one_mul]
                exact Nat.lt_of_le_of_lt rv.2.2 (by decide +kernel)
              refine ⟨t, m, _, _, _, _, rfl, (ht.same sm').sq, .of upd_same, ⟨by omega, d2, f1, f3, Nat.lt_of_le_of_lt d1.1 q1, Nat.lt_of_le_of_lt d1.2 q2⟩, fun o no => ?_⟩
              have skm := sk.trans sm'
              have nCo : o ≠ C := fun z => by rw [z, skm _ _ hC8] at no; cases no
              have nGo : Gx o = none := by
                cases w : Gx o with
                | none => rfl
                | some oo => rw [skm _ _ (sx8 _ _ nCo (s17 _ _ w))] at no; cases no
              refine ⟨skm.trans (same_upd no), o, _, ts ++ [(cf one k, vs2.getD (k + e) (0, 1))], rfl, ?_, by rw [List.length_append]; show _ + 1 ≤ _; omega, fun x hx => ?_, nGo, nCo⟩
              · rw [acc_app]
                exact upd_same
              · rcases List.mem_append.mp hx with hx | hx
                · exact hts x hx
                · rw [List.mem_singleton.mp hx]
                  exact ⟨bk, rv⟩
            · obtain ⟨sk, t, v10, ts, rfl, ht, lts, hts, n1, n2⟩ := pv
              exact ⟨sk, t, _, _, ts, rfl, ht, by omega, hts, n1, n2⟩
          · obtain ⟨sj, t, v9, v10, ts, rfl, ht, lts, hts, n1, n2⟩ := pv
            have hCj := sj _ _ hC8
            have lcs := hA8.len
            have lrr := wd.1
            have vok := fsum_64 hts (by omega)
            refine ⟨_, rfl, .inl ⟨rfl, _, .of hCj⟩, _, rfl, C, _, _, rfl, rfl, hCj, small' (by rw [List.length_map]; omega), ?_⟩
            have nCH : H C = none := sm4.free nC
            refine ⟨same_over (sm8.trans sj) nCH, fun c o n h => by rw [upd_ne n]; exact sj _ _ (sx8 _ _ n h), _, _, _, _, cs ++ [t], vs ++ [fsum ts], rfl, by rw [upd_same, List.map_append]; rfl, A2.snoc ⟨n2, n1, by show upd G C _ t = _; rw [upd_ne n2]; exact ht⟩ (hA8.mono fun _ _ z => (z.mono (sx sj)).mono SameX.put), by rw [List.length_append, lvs]; rfl, fun v hv => ?_⟩
            rcases List.mem_append.mp hv with h | h
            · exact hv8 v h
            · rw [List.mem_singleton.mp h]; exact vok
        · obtain ⟨sm8, sx8, v7, v8, v9, v10, cs, vs, rfl, hC8, hA8, lvs, hv8⟩ := pv
          have pn : PN Gx G (.ref C) vs := ⟨C, rfl, nCx, cs, hC8, hA8.mono fun _ _ z => ⟨z.2.1, z.2.2⟩⟩
          have CD : D ≠ C := fun z => by rw [← z, hD] at nCx; cases nCx
          have hD8 := sx8 _ _ CD hD7
          have lys := hS.len
          have pd := pn.pd (D := D) (by rw [hD]; exact fun z => nomatch z)
          have sxx : SameX D Gx (upd G D (.lst (ys ++ [.ref C]))) := fun c o n h => by
            rw [upd_ne n]
            exact sx8 _ _ (fun z => by rw [z, nCx] at h; cases h) (s17 _ _ h)
          refine ⟨_, rfl, .inl ⟨rfl, _, .of hD8⟩, _, rfl, D, _, _, rfl, rfl, hD8, small' (by omega), ?_⟩
          refine ⟨same_over sm8 nD, _, _, _, _, _, _, _, _, ys ++ [.ref C], S ++ [vs], rfl, upd_same, A2.snoc (PD.mono _ _ _ _ SameX.put pd) (hS.mono fun v l z => PD.mono _ _ v l sxx z), by rw [List.length_append, lS]; rfl, ⟨fun l hl => ?_, fun l hl => ?_⟩⟩
          · rcases List.mem_append.mp hl with h | h
            · exact src.len l h
            · rw [List.mem_singleton.mp h, lvs]; exact c12
          · rcases List.mem_append.mp hl with h | h
            · exact src.ok l h
            · rw [List.mem_singleton.mp h]; exact hv8
    · obtain ⟨sm, v3, v4, v5, v6, v7, v8, v9, v10, ys, S, rfl, hD, hS, lS, src⟩ := pv
      exact ⟨_, rfl, q G D S sm (ll_of hD hS) (by omega) src⟩
end
end K70
-- M70
namespace K70
open PySem PySem.Spec PyProof.Rows L2
open QF (low sg gc)
/-! ### cut, and what is refused -/
theorem first_of {α : Type} {p : α → Prop} {xs : List α} {i j : Nat} {x y : α} (hi : xs[i]? = some x) (hx : ¬ p x) (hb : ∀ z ∈ xs.take i, p z) (hj : xs[j]? = some y) (hy : ¬ p y) (hc : ∀ z ∈ xs.take j, p z) : i = j := by
  rcases Nat.lt_trichotomy i j with h | h | h
  · exact absurd (hc x (List.mem_of_getElem? (i := i) (by rw [List.getElem?_take]; simp [h, hi]))) hx
  · exact h
  · exact absurd (hb y (List.mem_of_getElem? (i := j) (by rw [List.getElem?_take]; simp [h, hj]))) hy
theorem first_off {rs : List Rw} {i j : Nat} {x y : Rw} (hi : rs[i]? = some x) (hx : x.1 = false) (hb : ∀ z ∈ rs.take i, z.1 = true) (hj : rs[j]? = some y) (hy : y.1 = false) (hc : ∀ z ∈ rs.take j, z.1 = true) : i = j :=
  first_of (p := fun z => z.1 = true) hi (by simp [hx]) hb hj (by simp [hy]) hc
theorem first_big {S : List (List Fr)} {i j : Nat} {x y : List Fr} (hi : S[i]? = some x) (hx : 12 < x.length) (hb : ∀ z ∈ S.take i, z.length ≤ 12) (hj : S[j]? = some y) (hy : 12 < y.length) (hc : ∀ z ∈ S.take j, z.length ≤ 12) : i = j :=
  first_of (p := fun z => z.length ≤ 12) hi (by omega) hb hj (by omega) hc
section
variable {P : Program} {w : World} {K : PySem.W.Frag} {mg : Str → Option Value} {base : Heap} {Ps : List Addr}
def sp_law_cut : Sp := fun vs H Q _ => ∃ (p : Addr) (as : List Addr) (src : List Fr), vs = [.ref p] ∧ H p = some (.lst (as.map V.ref)) ∧ A2 (PR H) as src ∧ src.length ≤ 1000 ∧ ∀ H' q m, Same H H' → H q = none → H' q = some (.lst ((as.take m).map V.ref)) → Q (.ref q) H'
theorem ok_law_cut (T : Txt K mg) : FnOk P w K mg base CX0 1 T.law_cut.a T.law_cut.fd ["source"] sp_law_cut := by
  refine T.law_cut.F.ok sc_law_cut (fun vs H Q E h => ?_) (fun cdv A outer s H vs Q E hr h => ?_)
  · obtain ⟨p, as, src, rfl, _⟩ := h
    rfl
  · obtain ⟨p, as, src, rfl, hp, hA, hl, q⟩ := h
    refine ⟨_, (pss_cons (ps_set (i := 1) sc_law_cut.nd rfl (.inl rfl) (pe_callB call_len_seq (by rfl) T.m_len (by decide +kernel) (pa_cons (pv 0) pa_nil)))
      (pss_cons (ps_for PassesOwn.never rfl (pi_range1 (by rfl) T.m_range (pa_cons (pe_callB call_len_seq (by rfl) T.m_len (by decide +kernel) (pa_cons (pv 0) pa_nil)) pa_nil)) (pg_name (i := 2) sc_law_cut.nd rfl (.inl rfl))
        (pss_one (ps_if (PW.pt (pw_and (pt_cmpR op_gt (pv 1) pe_int (nomark _)) (pw_and1 (pt_cmpR op_eq (pe_ix ix_tup (pe_ix ix_list (pv 0) (pe_op op_sub (pv 1) pe_int) (fun _ _ => rfl)) pe_int (fun _ _ => rfl)) pe_int (nomark _)))))
          (pss_one (ps_set (i := 1) sc_law_cut.nd rfl (.inl rfl) (pe_op op_sub (pv 1) pe_int)))
          pss_nil)))
      (pss_one (ps_ret (pe_slice sl_list (pv 0) po_none (po_some (pv 1))))))), ?_⟩
    have la := hA.len
    refine ⟨.ref p, rfl, p, _, rfl, .inl (.of hp), .ref p, rfl, p, _, rfl, .inl (.of hp), _, rfl, by omega, by rw [List.length_map]; omega, ?_⟩
    rw [Int.toNat_natCast, List.length_map]
    refine for_it (walk_range (lo := 0) (n := as.length)) (fun i σ G => G = H ∧ ∃ (m : Nat) (v2 : Option V), m ≤ as.length ∧ σ = [some (.ref p), some (.int (m : Nat)), v2])
      ⟨rfl, as.length, none, Nat.le_refl _, rfl⟩ (fun _ _ _ _ _ => trivial) (fun i x σ G Gx hi pv y => ?_) (fun σ G pv => ?_)
    · obtain ⟨rfl, m, v2, hm, rfl⟩ := pv
      obtain ⟨rfl, rfl⟩ := y
      refine ⟨_, rfl, _, _, rfl, rfl, _, rfl, ?_⟩
      by_cases z : m = 0
      · subst z
        exact iteF (iteF ⟨rfl, 0, _, hm, rfl⟩)
      · rw [decide_eq_true (show (0 : Int) < ((m : Nat) : Int) by omega)]
        obtain ⟨a, ea⟩ : ∃ a, as[m - 1]? = some a := ⟨as[m - 1]'(by omega), by simp [show m - 1 < as.length by omega]⟩
        obtain ⟨r, er, hr2⟩ := hA.get ea
        refine iteT ⟨.ref p, rfl, _, rfl, _, _, rfl, rfl, p, _, _, _, rfl, rfl, .of hp, (by
          rw [show ((m : Nat) : Int) - 1 = ((m - 1 : Nat) : Int) by omega]
          exact atI_nat (by rw [List.getElem?_map, ea]; rfl)), a, _, _, _, rfl, rfl, hr2.sq, at0, rfl, _, rfl, ite2 (fun h => ?_) (fun h => ?_)⟩
        · refine ⟨_, rfl, _, _, rfl, rfl, ?_⟩
          exact ⟨rfl, m - 1, some (.int (0 + (i : Int))), by omega, by rw [show (fun i j => V.int (i - j)) ((m : Nat) : Int) 1 = V.int ((m - 1 : Nat) : Int) from congrArg V.int (by omega)]; rfl⟩
        · exact ⟨rfl, m, _, hm, rfl⟩
    · obtain ⟨rfl, m, v2, hm, rfl⟩ := pv
      refine ⟨_, rfl, _, rfl, _, rfl, p, _, rfl, .of hp, fun z nz => ?_⟩
      rw [cutT rfl, ← List.map_take]
      exact q _ z m (same_upd nz) nz upd_same
def sp_law_refused (K : PySem.W.Frag) (Ps : List Addr) : Sp := fun vs H Q _ => ∃ (g p b : Addr) (rs : List Rw) (S L : List (List Fr)), vs = [.ref g, .ref p, .ref b] ∧ GR K H g rs ∧ LL H p S ∧ LL H b L ∧ TGs Ps H ∧ rs.length ≤ 1000 ∧ S.length ≤ 1000 ∧ L.length ≤ 1000 ∧
  ((∃ i r, rs[i]? = some r ∧ r.1 = false ∧ (∀ x ∈ rs.take i, x.1 = true) ∧ ∀ H' t l, Same H H' → H' t = some (.tup [.ref l, .int (i : Nat)]) → H' l = some (.lst [.bl true, .bl false, .bl false]) → Q (.ref t) H') ∨
   ((∀ r ∈ rs, r.1 = true) ∧ S.length ≠ rs.length ∧ ∀ H' t l, Same H H' → H' t = some (.tup [.ref l, .int (S.length : Nat)]) → H' l = some (.lst [.bl false, .bl true, .bl false]) → Q (.ref t) H') ∨
   ((∀ r ∈ rs, r.1 = true) ∧ S.length = rs.length ∧ ∃ i l, S[i]? = some l ∧ 12 < l.length ∧ (∀ x ∈ S.take i, x.length ≤ 12) ∧ ∀ H' t l, Same H H' → H' t = some (.tup [.ref l, .int (i : Nat)]) → H' l = some (.lst [.bl false, .bl false, .bl true]) → Q (.ref t) H'))
theorem ok_law_refused (T : Txt K mg) (X : Errs K mg) (TB : Tbs base T Ps) : FnOk P w K mg base CX0 6 T.law_refused.a T.law_refused.fd ["grid", "sources", "lists"] (sp_law_refused K Ps) := by
  refine T.law_refused.F.ok sc_law_refused (fun vs H Q E h => ?_) (fun cdv A outer s H vs Q E hr h => ?_)
  · obtain ⟨g, p, b, rs, S, L, rfl, _⟩ := h
    rfl
  · obtain ⟨g, p, b, rs, S, L, rfl, hg, hp, hb, tg, l1, l2, l3, h⟩ := h
    refine ⟨_, (pss_cons (ps_try_as (i := 3) rfl rfl sc_law_refused.nd rfl rfl ⟨rfl, by decide, .inl X.e0.gM⟩ takes0
        (fun W pn xe tk _ => (pss_one (ps_expr (pe_callS (ok_keeps T X TB) (hr.mono (by decide)) (by rfl) T.keeps.g T.keeps.kp T.keeps.b (fun σ => passAt tk σ) (pa_cons (pv 0) (pa_cons (pv 1) (pa_cons (pv 2) pa_nil)))))))
        (fun a oe cls d pn hz hf => (pss_one (ps_ret (pe_tup (pa_cons (pe_lst (pa_cons (pe_callB (LX.call_isX hz hf) (by rfl) T.m_isinstance (by decide +kernel) (pa_cons (pv 3) (pa_cons (pe_glob (v := .ref X.NotExact.C) rfl X.NotExact.g rfl) pa_nil))) (pa_cons (pe_callB (LX.call_isX hz hf) (by rfl) T.m_isinstance (by decide +kernel) (pa_cons (pv 3) (pa_cons (pe_glob (v := .ref X.WrongSize.C) rfl X.WrongSize.g rfl) pa_nil))) (pa_cons (pe_callB (LX.call_isX hz hf) (by rfl) T.m_isinstance (by decide +kernel) (pa_cons (pv 3) (pa_cons (pe_glob (v := .ref X.OutOfRange.C) rfl X.OutOfRange.g rfl) pa_nil))) pa_nil)))) (pa_cons (LX.pe_xfA hz hf (pv 3)) pa_nil)))))))
      (pss_one (ps_ret pe_non))), ?_⟩
    refine ⟨_, rfl, _, rfl, _, rfl, g, p, b, rs, S, L, rfl, hg, hp, hb, tg, l1, l2, l3, ?_⟩
    rcases h with ⟨i, r, hi, hr0, hbf, q⟩ | ⟨ex, ne, q⟩ | ⟨ex, el, i, l, hi, hl, hbf, q⟩
    · refine ⟨fun i' r' hi' hr' hb' H1 s1 dd hdd => ?_, fun ex => absurd (ex r (List.mem_of_getElem? hi)) (by rw [hr0]; exact fun z => nomatch z)⟩
      obtain rfl := first_off hi hr0 hbf hi' hr' hb'
      · refine ⟨true, X.NotExact.exm, fun _ a0 ha0 => ?_, fun q => nomatch q⟩
        have s0 := s1.trans (same_upd hdd (o := .xd [("at", .int ((i : Nat) : Int))]))
        refine ⟨_, rfl, X.NotExact.C, dd, _, _, true, _, rfl, rfl, X.NotExact.named.own, rfl, .own _, upd_same, X.NotExact.kit, ?_⟩
        refine ⟨_, rfl, X.NotExact.C, dd, _, _, false, _, rfl, rfl, X.NotExact.named.own, rfl, .own _, upd_same, X.n_NotExact_WrongSize, ?_⟩
        refine ⟨_, rfl, X.NotExact.C, dd, _, _, false, _, rfl, rfl, X.NotExact.named.own, rfl, .own _, upd_same, X.n_NotExact_OutOfRange, ?_⟩
        refine ⟨by show 3 ≤ sizeLine; decide, fun l nl => ?_⟩
        have s3 := same_upd nl (o := .lst [.bl true, .bl false, .bl false])
        refine ⟨X.NotExact.C, X.NotExact.xf, X.NotExact.noAt, _, rfl, rfl, rfl, dd, _, _, rfl, s3 _ _ upd_same, rfl, by show 2 ≤ sizeLine; decide, fun p hp => ?_⟩
        have s2 := same_upd hp (o := .tup [.ref l, .int ((i : Nat) : Int)])
        exact q _ p l (s0.trans (s3.trans s2)) upd_same (s2 _ _ upd_same)
    · refine ⟨fun i' r' hi' hr' hb' => absurd (ex r' (List.mem_of_getElem? hi')) (by rw [hr']; exact fun z => nomatch z), fun _ => ⟨fun _ H1 s1 dd hdd => ?_, fun el => absurd el ne⟩⟩
      · refine ⟨true, X.WrongSize.exm, fun _ a0 ha0 => ?_, fun q => nomatch q⟩
        have s0 := s1.trans (same_upd hdd (o := .xd [("at", .int ((S.length : Nat) : Int))]))
        refine ⟨_, rfl, X.WrongSize.C, dd, _, _, false, _, rfl, rfl, X.WrongSize.named.own, rfl, .own _, upd_same, X.n_WrongSize_NotExact, ?_⟩
        refine ⟨_, rfl, X.WrongSize.C, dd, _, _, true, _, rfl, rfl, X.WrongSize.named.own, rfl, .own _, upd_same, X.WrongSize.kit, ?_⟩
        refine ⟨_, rfl, X.WrongSize.C, dd, _, _, false, _, rfl, rfl, X.WrongSize.named.own, rfl, .own _, upd_same, X.n_WrongSize_OutOfRange, ?_⟩
        refine ⟨by show 3 ≤ sizeLine; decide, fun l nl => ?_⟩
        have s3 := same_upd nl (o := .lst [.bl false, .bl true, .bl false])
        refine ⟨X.WrongSize.C, X.WrongSize.xf, X.WrongSize.noAt, _, rfl, rfl, rfl, dd, _, _, rfl, s3 _ _ upd_same, rfl, by show 2 ≤ sizeLine; decide, fun p hp => ?_⟩
        have s2 := same_upd hp (o := .tup [.ref l, .int ((S.length : Nat) : Int)])
        exact q _ p l (s0.trans (s3.trans s2)) upd_same (s2 _ _ upd_same)
    · refine ⟨fun i' r' hi' hr' hb' => absurd (ex r' (List.mem_of_getElem? hi')) (by rw [hr']; exact fun z => nomatch z), fun _ => ⟨fun ne => absurd el ne, fun _ => ⟨fun i' l' hi' hl' hb' H1 s1 dd hdd => ?_, fun ok => absurd (ok l (List.mem_of_getElem? hi)) (by omega)⟩⟩⟩
      obtain rfl := first_big hi hl hbf hi' hl' hb'
      · refine ⟨true, X.OutOfRange.exm, fun _ a0 ha0 => ?_, fun q => nomatch q⟩
        have s0 := s1.trans (same_upd hdd (o := .xd [("at", .int ((i : Nat) : Int))]))
        refine ⟨_, rfl, X.OutOfRange.C, dd, _, _, false, _, rfl, rfl, X.OutOfRange.named.own, rfl, .own _, upd_same, X.n_OutOfRange_NotExact, ?_⟩
        refine ⟨_, rfl, X.OutOfRange.C, dd, _, _, false, _, rfl, rfl, X.OutOfRange.named.own, rfl, .own _, upd_same, X.n_OutOfRange_WrongSize, ?_⟩
        refine ⟨_, rfl, X.OutOfRange.C, dd, _, _, true, _, rfl, rfl, X.OutOfRange.named.own, rfl, .own _, upd_same, X.OutOfRange.kit, ?_⟩
        refine ⟨by show 3 ≤ sizeLine; decide, fun l nl => ?_⟩
        have s3 := same_upd nl (o := .lst [.bl false, .bl false, .bl true])
        refine ⟨X.OutOfRange.C, X.OutOfRange.xf, X.OutOfRange.noAt, _, rfl, rfl, rfl, dd, _, _, rfl, s3 _ _ upd_same, rfl, by show 2 ≤ sizeLine; decide, fun p hp => ?_⟩
        have s2 := same_upd hp (o := .tup [.ref l, .int ((i : Nat) : Int)])
        exact q _ p l (s0.trans (s3.trans s2)) upd_same (s2 _ _ upd_same)
end
end K70
-- O70
namespace K70
open PySem PySem.Spec PyProof.Rows L2
/-! ### the law's own refusals -/
def dR (b0 b1 b2 : Bool) (n : Int) : PyData := .tuple [.list [.bool b0, .bool b1, .bool b2], .int n]
theorem dR_dp {K : PySem.W.Frag} {H : Hp} {t l : Addr} {b0 b1 b2 : Bool} {n : Int} (h : H t = some (.tup [.ref l, .int n])) (hl : H l = some (.lst [.bl b0, .bl b1, .bl b2])) : Dp K H (.ref t) (dR b0 b1 b2 n) :=
  .tup (.of h) (.cons (.lst (.of hl) (.cons (.bl b0) (.cons (.bl b1) (.cons (.bl b2) .nil)))) (.cons (.int n) .nil))
theorem shaped_dR (b0 b1 b2 : Bool) (n : Int) : SeqAt.shaped (dR b0 b1 b2 n) = true := rfl
theorem eqv_dR (b0 b1 b2 : Bool) (n : Int) : PyData.eqv (dR b0 b1 b2 n) (dR b0 b1 b2 n) = true := SeqAt.eqv_refl _ (SeqAt.canLay_of_shaped (shaped_dR b0 b1 b2 n))
theorem A2.app {α β : Type} {R : α → β → Prop} {cs : List α} {ds : List β} (h2 : A2 R cs ds) : ∀ {as : List α} {bs : List β}, A2 R as bs → A2 R (as ++ cs) (bs ++ ds)
  | _, _, .nil => h2
  | _, _, .cons a r => .cons a (A2.app h2 r)
theorem A2.take {α β : Type} {R : α → β → Prop} : ∀ {as : List α} {bs : List β} (n : Nat), A2 R as bs → A2 R (as.take n) (bs.take n)
  | _, _, 0, _ => .nil
  | _, _, n + 1, .nil => .nil
  | _, _, n + 1, .cons a r => .cons a (A2.take n r)
theorem A2.drop {α β : Type} {R : α → β → Prop} : ∀ {as : List α} {bs : List β} (n : Nat), A2 R as bs → A2 R (as.drop n) (bs.drop n)
  | _, _, 0, h => h
  | _, _, n + 1, .nil => .nil
  | _, _, n + 1, .cons a r => A2.drop n r
theorem A2.rep {α β : Type} {R : α → β → Prop} {x : α} {y : β} (h : R x y) : ∀ n, A2 R (List.replicate n x) (List.replicate n y)
  | 0 => .nil
  | n + 1 => .cons h (A2.rep h n)
theorem rep_flat {α : Type} (x : α) (n : Nat) : (List.replicate n [x]).flatten = List.replicate n x := by
  induction n with
  | zero => rfl
  | succ n ih => rw [List.replicate_succ, List.flatten_cons, ih, List.replicate_succ]; rfl
theorem ref_inj0 : ∀ {as bs : List Addr}, as.map V.ref = bs.map V.ref → as = bs
  | [], [], _ => rfl
  | [], b :: bs, h => by rw [List.map_cons] at h; exact nomatch h
  | a :: as, [], h => by rw [List.map_cons] at h; exact nomatch h
  | a :: as, b :: bs, h => by
    rw [List.map_cons, List.map_cons] at h
    obtain ⟨h1, h2⟩ := List.cons.inj h
    rw [ref_inj0 h2]
    injection h1 with h1
    rw [h1]
theorem ref_inj {as bs : List Addr} (h : some (HO.lst (as.map V.ref)) = some (HO.lst (bs.map V.ref))) : as = bs := by
  injection h with h
  injection h with h
  exact ref_inj0 h
theorem cutD {xs : List V} {n : Nat} (h : n ≤ xs.length) : cutV xs (some ((n : Nat) : Int)) none = xs.drop n := by
  unfold cutV
  rw [HT.sIx_none, HT.sIx_nat, Nat.min_eq_left h, List.take_of_length_le (by rw [List.length_drop]; exact Nat.le_refl _)]
section
variable {P : Program} {w : World} {K : PySem.W.Frag} {mg : Str → Option Value} {base : Heap} {Ps : List Addr}
def sp_law_bad (K : PySem.W.Frag) (Ps : List Addr) : Sp := fun vs H Q _ => ∃ (a g p b : Addr) (ds : List Int) (rs : List Rw) (S L : List (List Fr)), vs = [.ref a, .ref g, .ref p, .ref b] ∧ IL H a ds ∧ GR K H g rs ∧ LL H p S ∧ LL H b L ∧ TGs Ps H ∧ rs.length ≤ 16 ∧ L.length ≤ 1000 ∧
  (∀ r ∈ rs, r.1 = true) ∧ S.length = rs.length ∧ (∀ l ∈ S, l.length ≤ 12) ∧ ∀ H', Q (.bl true) H'
theorem ok_law_bad (T : Txt K mg) (X : Errs K mg) (TB : Tbs base T Ps) : FnOk P w K mg base CX0 7 T.law_bad.a T.law_bad.fd ["draws", "grid", "sources", "lists"] (sp_law_bad K Ps) := by
  refine T.law_bad.F.ok sc_law_bad (fun vs H Q E h => ?_) (fun cdv A outer s H vs Q E hr h => ?_)
  · obtain ⟨a, g, p, b, ds, rs, S, L, rfl, _⟩ := h
    rfl
  · obtain ⟨a, g, p, b, ds, rs, S, L, rfl, ha, hg, hp, hb, tg, lr, lL, ex, lS, ok12, q⟩ := h
    refine ⟨_, (pss_cons (ps_set (i := 4) sc_law_bad.nd rfl (.inl rfl) (pe_callB call_len_seq (by rfl) T.m_len (by decide +kernel) (pa_cons (pv 1) pa_nil)))
      (pss_cons (ps_if (pt_cmpR (op_neD hr.units) (pe_call (ok_law_refused T X TB) (hr.mono (by decide)) (by rfl) T.law_refused.g T.law_refused.F.kp T.law_refused.b .nil pass0 (pa_cons (pv 1) (pa_cons (pe_op op_cat (pv 2) (pe_lst (pa_cons (pe_lst pa_nil) pa_nil))) (pa_cons (pv 3) pa_nil)))) (pe_tup (pa_cons (pe_lst (pa_cons pe_bl (pa_cons pe_bl (pa_cons pe_bl pa_nil)))) (pa_cons (pe_op op_add (pv 4) pe_int) pa_nil))) (nomark _))
        (pss_one (ps_ret pe_bl))
        pss_nil)
      (pss_cons (ps_if (pt_cmpR op_eq (pv 4) pe_int (nomark _))
        (pss_one (ps_ret pe_bl))
        pss_nil)
      (pss_cons (ps_set (i := 5) sc_law_bad.nd rfl (.inl rfl) (pe_call (ok_law_mix T) (hr.mono (by decide)) (by rfl) T.law_mix.g T.law_mix.F.kp T.law_mix.b .nil pass0 (pa_cons (pv 0) (pa_cons pe_int (pa_cons (pv 4) pa_nil)))))
      (pss_cons (ps_set (i := 6) sc_law_bad.nd rfl (.inl rfl) (pe_op op_add pe_int (pe_call (ok_law_mix T) (hr.mono (by decide)) (by rfl) T.law_mix.g T.law_mix.F.kp T.law_mix.b .nil pass0 (pa_cons (pv 0) (pa_cons pe_int (pa_cons pe_int pa_nil))))))
      (pss_cons (ps_set (i := 7) sc_law_bad.nd rfl (.inl rfl) (pe_op op_cat (pe_slice sl_list (pv 2) po_none (po_some (pv 5))) (pe_op op_rep (pe_lst (pa_cons (pe_op op_rep (pe_lst (pa_cons (pe_tup (pa_cons pe_int (pa_cons pe_int pa_nil))) pa_nil)) (pv 6)) pa_nil)) (pe_op op_sub (pv 4) (pv 5)))))
      (pss_cons (ps_if (PW.pt (pw_or (pt_cmpR (op_neD hr.units) (pe_call (ok_law_refused T X TB) (hr.mono (by decide)) (by rfl) T.law_refused.g T.law_refused.F.kp T.law_refused.b .nil pass0 (pa_cons (pv 1) (pa_cons (pv 7) (pa_cons (pv 3) pa_nil)))) (pe_tup (pa_cons (pe_lst (pa_cons pe_bl (pa_cons pe_bl (pa_cons pe_bl pa_nil)))) (pa_cons (pv 5) pa_nil))) (nomark _)) (pw_or1 (pt_cmpR (op_neD hr.units) (pe_call (ok_law_refused T X TB) (hr.mono (by decide)) (by rfl) T.law_refused.g T.law_refused.F.kp T.law_refused.b .nil pass0 (pa_cons (pv 1) (pa_cons (pe_slice sl_list (pv 7) (po_some pe_int) po_none) (pa_cons (pv 3) pa_nil)))) (pe_tup (pa_cons (pe_lst (pa_cons pe_bl (pa_cons pe_bl (pa_cons pe_bl pa_nil)))) (pa_cons (pe_op op_sub (pv 4) pe_int) pa_nil))) (nomark _)))))
        (pss_one (ps_ret pe_bl))
        pss_nil)
      (pss_cons (ps_set (i := 8) sc_law_bad.nd rfl (.inl rfl) (pe_op op_cat (pe_slice sl_list (pv 1) po_none (po_some (pv 5))) (pe_op op_rep (pe_lst (pa_cons (pe_tup (pa_cons pe_str (pa_cons (pe_lc (own := [("j", 9)]) rfl sc_law_bad.nd (pi_range1 (by rfl) T.m_range (pa_cons (pv 4) pa_nil)) (blkOk_by (N := ["draws", "grid", "sources", "lists", "many", "at", "size", "long", "sized", "j"]) (sc := defScope s_law_bad) (by decide +kernel)) (fun _ _ _ _ _ => (pg_name (i := 9) sc_law_bad.nd rfl (.inl rfl))) (fun _ _ _ _ _ => pts_nil) (fun _ _ _ _ _ => (pe_lst (pa_cons pe_int pa_nil)))) pa_nil))) pa_nil)) (pe_op op_sub (pv 4) (pv 5)))))
      (pss_one (ps_ret (pe_cmpR (op_eqD hr.units) (pe_call (ok_law_refused T X TB) (hr.mono (by decide)) (by rfl) T.law_refused.g T.law_refused.F.kp T.law_refused.b .nil pass0 (pa_cons (pv 8) (pa_cons (pe_slice sl_list (pv 7) (po_some pe_int) po_none) (pa_cons (pv 3) pa_nil)))) (pe_tup (pa_cons (pe_lst (pa_cons pe_bl (pa_cons pe_bl (pa_cons pe_bl pa_nil)))) (pa_cons (pv 5) pa_nil))) (nomark _)))))))))))), ?_⟩
    have hg0 := hg
    have hp0 := hp
    obtain ⟨xs, hgx, hA⟩ := hg
    obtain ⟨ps, hpx, hS⟩ := hp
    have lx := hA.len
    have lp := hS.len
    refine ⟨.ref g, rfl, g, _, rfl, .inl (.of hgx), _, rfl, ?_⟩
    refine ⟨.ref p, rfl, ?_⟩
    refine ⟨by show 0 ≤ sizeLine; decide, fun n1 e1 => ?_⟩
    have s1 := same_upd e1 (o := .lst [])
    have h1 := upd_same (H := H) (a := n1) (o := HO.lst [])
    generalize upd H n1 _ = H1 at s1 h1
    refine ⟨by show 1 ≤ sizeLine; decide, fun n2 e2 => ?_⟩
    have s2 := same_upd e2 (o := .lst [.ref n1])
    have h2 := upd_same (H := H1) (a := n2) (o := HO.lst [.ref n1])
    generalize upd H1 n2 _ = H2 at s2 h2
    refine ⟨p, n2, ps.map V.ref, [.ref n1], rfl, rfl, s2 _ _ (s1 _ _ hpx), h2, by rw [List.length_map]; show _ + 1 ≤ sizeLine; exact small (by omega), fun n3 e3 => ?_⟩
    have s3 := same_upd e3 (o := .lst (ps.map V.ref ++ [.ref n1]))
    have h3 := upd_same (H := H2) (a := n3) (o := HO.lst (ps.map V.ref ++ [.ref n1]))
    generalize upd H2 n3 _ = H3 at s3 h3
    have s13 := s1.trans (s2.trans s3)
    refine ⟨_, rfl, g, n3, b, rs, S ++ [[]], L, rfl, hg0.lk (lk s13), ⟨ps ++ [n1], by rw [List.map_append]; exact h3, A2.app (.cons ⟨[], s3 _ _ (s2 _ _ h1), .nil⟩ .nil) (hS.mono fun _ _ z => z.same s13)⟩, hb.same s13, tg.same s13, by omega, by rw [List.length_append]; show _ + 1 ≤ 1000; omega, lL, .inr (.inl ⟨ex, by rw [List.length_append]; show _ + 1 ≠ _; omega, fun H4 t l s4 ht hl => ?_⟩)⟩
    rw [List.length_append] at ht
    have em : ((S.length + [([] : List Fr)].length : Nat) : Int) = ((xs.length : Nat) : Int) + 1 := by show ((S.length + 1 : Nat) : Int) = _; omega
    rw [em] at ht
    refine ⟨by show 3 ≤ sizeLine; decide, fun n5 e5 => ?_⟩
    have s5 := same_upd e5 (o := .lst [.bl false, .bl true, .bl false])
    have h5 := upd_same (H := H4) (a := n5) (o := HO.lst [.bl false, .bl true, .bl false])
    generalize upd H4 n5 _ = H5 at s5 h5
    refine ⟨_, rfl, _, _, rfl, rfl, by show 2 ≤ sizeLine; decide, fun n6 e6 => ?_⟩
    have s6 := same_upd e6 (o := .tup [.ref n5, .int (((xs.length : Nat) : Int) + 1)])
    have h6 : upd H5 n6 (.tup [.ref n5, .int (((xs.length : Nat) : Int) + 1)]) n6 = _ := upd_same
    rw [show (fun i j => V.int (i + j)) ((xs.length : Nat) : Int) 1 = V.int (((xs.length : Nat) : Int) + 1) from rfl]
    generalize upd H5 n6 _ = H6 at s6 h6
    refine ⟨_, _, dR_dp (s6 _ _ (s5 _ _ ht)) (s6 _ _ (s5 _ _ hl)), dR_dp h6 (s6 _ _ h5), shaped_dR _ _ _ _, shaped_dR _ _ _ _, _, rfl, ?_⟩
    rw [eqv_dR]
    refine iteF ?_
    have s16 := s13.trans (s4.trans (s5.trans s6))
    clear s1 s2 s3 s13 s4 s5 s6 h1 h2 h3 ht hl h5 h6
    refine ⟨_, rfl, rfl, _, rfl, ?_⟩
    by_cases z : xs.length = 0
    · rw [decide_eq_true (show V.int ((xs.length : Nat) : Int) = V.int 0 from congrArg V.int (by omega))]
      exact iteT (q _)
    rw [decide_eq_false (show ¬ V.int ((xs.length : Nat) : Int) = V.int 0 from fun w => z (by injection w with w; omega))]
    refine iteF ?_
    refine ⟨_, rfl, _, rfl, a, ds, 4000, _, rfl, ha.same s16, by decide, by omega, fun r r0 r1 => ?_⟩
    obtain ⟨at0, rfl⟩ : ∃ n : Nat, r = (n : Nat) := ⟨r.toNat, by omega⟩
    refine ⟨_, rfl, a, ds, 4001, 4, rfl, ha.same s16, by decide, by decide, fun r2 r20 r21 => ?_⟩
    refine ⟨_, _, rfl, rfl, ?_⟩
    obtain ⟨sz, esz⟩ : ∃ n : Nat, 13 + r2 = (n : Nat) := ⟨(13 + r2).toNat, by omega⟩
    rw [show (fun i j => V.int (i + j)) 13 r2 = V.int ((sz : Nat) : Int) from congrArg V.int esz]
    refine ⟨_, rfl, _, rfl, _, rfl, p, _, rfl, .of (s16 _ _ hpx), fun n7 e7 => ?_⟩
    have s7 := same_upd e7 (o := .lst (cutV (ps.map V.ref) none (some ((at0 : Nat) : Int))))
    have h7 := upd_same (H := H6) (a := n7) (o := HO.lst (cutV (ps.map V.ref) none (some ((at0 : Nat) : Int))))
    generalize upd H6 n7 _ = H7 at s7 h7
    rw [cutT rfl, ← List.map_take] at h7
    refine ⟨by show 2 ≤ sizeLine; decide, fun n8 e8 => ?_⟩
    have s8 := same_upd e8 (o := .tup [.int 0, .int 1])
    have h8 := upd_same (H := H7) (a := n8) (o := HO.tup [.int 0, .int 1])
    generalize upd H7 n8 _ = H8 at s8 h8
    refine ⟨by show 1 ≤ sizeLine; decide, fun n9 e9 => ?_⟩
    have s9 := same_upd e9 (o := .lst [.ref n8])
    have h9 := upd_same (H := H8) (a := n9) (o := HO.lst [.ref n8])
    generalize upd H8 n9 _ = H9 at s9 h9
    refine ⟨_, rfl, n9, ((sz : Nat) : Int), [.ref n8], rfl, rfl, h9, by omega, by omega, by show 1 * _ ≤ sizeLine; exact small (by omega), fun m1 f1 => ?_⟩
    have t1 := same_upd f1 (o := .lst (List.replicate ((sz : Nat) : Int).toNat [V.ref n8]).flatten)
    have g1 := upd_same (H := H9) (a := m1) (o := HO.lst (List.replicate ((sz : Nat) : Int).toNat [V.ref n8]).flatten)
    generalize upd H9 m1 _ = J1 at t1 g1
    rw [rep_flat, Int.toNat_natCast, ← List.map_replicate] at g1
    refine ⟨by show 1 ≤ sizeLine; decide, fun m2 f2 => ?_⟩
    have t2 := same_upd f2 (o := .lst [.ref m1])
    have g2 := upd_same (H := J1) (a := m2) (o := HO.lst [.ref m1])
    generalize upd J1 m2 _ = J2 at t2 g2
    obtain ⟨rest, erest⟩ : ∃ n : Nat, ((xs.length : Nat) : Int) - ((at0 : Nat) : Int) = (n : Nat) := ⟨xs.length - at0, by omega⟩
    refine ⟨_, rfl, _, rfl, _, _, rfl, rfl, ?_⟩
    rw [show (fun i j => V.int (i - j)) ((xs.length : Nat) : Int) ((at0 : Nat) : Int) = V.int ((rest : Nat) : Int) from congrArg V.int erest]
    refine ⟨m2, ((rest : Nat) : Int), [.ref m1], rfl, rfl, g2, by omega, by omega, by show 1 * _ ≤ sizeLine; exact small (by omega), fun m3 f3 => ?_⟩
    have t3 := same_upd f3 (o := .lst (List.replicate ((rest : Nat) : Int).toNat [V.ref m1]).flatten)
    have g3 := upd_same (H := J2) (a := m3) (o := HO.lst (List.replicate ((rest : Nat) : Int).toNat [V.ref m1]).flatten)
    generalize upd J2 m3 _ = J3 at t3 g3
    rw [rep_flat, Int.toNat_natCast, ← List.map_replicate] at g3
    have t7 := s7.trans (s8.trans (s9.trans (t1.trans (t2.trans t3))))
    have t73 := s8.trans (s9.trans (t1.trans (t2.trans t3)))
    refine ⟨n7, m3, (ps.take at0).map V.ref, (List.replicate rest m1).map V.ref, rfl, rfl, t73 _ _ h7, g3, by rw [List.length_map, List.length_map, List.length_replicate, List.length_take]; exact small (by omega), fun m4 f4 => ?_⟩
    rw [← List.map_append]
    have t4 := same_upd f4 (o := .lst ((ps.take at0 ++ List.replicate rest m1).map V.ref))
    have g4 := upd_same (H := J3) (a := m4) (o := HO.lst ((ps.take at0 ++ List.replicate rest m1).map V.ref))
    generalize upd J3 m4 _ = J4 at t4 g4
    have k6 := s16.trans (t7.trans t4)
    have pl1 : PL J4 m1 (List.replicate sz (0, 1)) := ⟨List.replicate sz n8, t4 _ _ (t3 _ _ (t2 _ _ g1)), A2.rep (show PR J4 n8 (0, 1) from t4 _ _ (t3 _ _ (t2 _ _ (t1 _ _ (s9 _ _ h8))))) sz⟩
    have hlong : LL J4 m4 (S.take at0 ++ List.replicate rest (List.replicate sz (0, 1))) := ⟨_, g4, A2.app (A2.rep pl1 rest) ((A2.take at0 hS).mono fun _ _ z => z.same k6)⟩
    clear s7 s8 s9 t1 t2 t3 t7 t73 h7 h8 h9 g1 g2 g3
    have lS' : (S.take at0 ++ List.replicate rest (List.replicate sz ((0, 1) : Fr))).length = rs.length := by
      rw [List.length_append, List.length_replicate, List.length_take]; omega
    refine ⟨_, rfl, _, rfl, _, rfl, g, m4, b, rs, _, L, rfl, hg0.lk (lk k6), hlong, hb.same k6, tg.same k6, by omega, by omega, lL, .inr (.inr ⟨ex, lS', at0, List.replicate sz (0, 1), ?_, by rw [List.length_replicate]; omega, ?_, fun J5 t l t5 ht hl => ?_⟩)⟩
    · rw [List.getElem?_append_right (by rw [List.length_take]; omega), List.length_take, Nat.min_eq_left (by omega), Nat.sub_self, List.getElem?_replicate]
      exact if_pos (by omega)
    · intro x hx
      rw [List.take_append_of_le_length (by rw [List.length_take]; omega)] at hx
      exact ok12 x (List.mem_of_mem_take (List.mem_of_mem_take hx))
    refine ⟨by show 3 ≤ sizeLine; decide, fun n5 e5 => ?_⟩
    have s5 := same_upd e5 (o := .lst [.bl false, .bl false, .bl true])
    have h5 := upd_same (H := J5) (a := n5) (o := HO.lst [.bl false, .bl false, .bl true])
    generalize upd J5 n5 _ = J6 at s5 h5
    refine ⟨_, rfl, by show 2 ≤ sizeLine; decide, fun n6 e6 => ?_⟩
    have s6 := same_upd e6 (o := .tup [.ref n5, .int ((at0 : Nat) : Int)])
    have h6 := upd_same (H := J6) (a := n6) (o := HO.tup [.ref n5, .int ((at0 : Nat) : Int)])
    generalize upd J6 n6 _ = J7 at s6 h6
    refine ⟨_, _, dR_dp (s6 _ _ (s5 _ _ ht)) (s6 _ _ (s5 _ _ hl)), dR_dp h6 (s6 _ _ h5), shaped_dR _ _ _ _, shaped_dR _ _ _ _, _, rfl, ?_⟩
    rw [eqv_dR]
    have k7 := k6.trans (t5.trans (s5.trans s6))
    have g47 := (t5.trans (s5.trans s6)) _ _ g4
    have hlong7 := hlong.same (t5.trans (s5.trans s6))
    clear s5 s6 t5 h5 h6 ht hl
    refine iteF ?_
    refine ⟨_, rfl, _, rfl, _, rfl, m4, _, rfl, .of g47, fun m5 f5 => ?_⟩
    have t5 := same_upd f5 (o := .lst (cutV ((ps.take at0 ++ List.replicate rest m1).map V.ref) (some 1) none))
    have g5 := upd_same (H := J7) (a := m5) (o := HO.lst (cutV ((ps.take at0 ++ List.replicate rest m1).map V.ref) (some 1) none))
    generalize upd J7 m5 _ = J8 at t5 g5
    have len1 : (ps.take at0 ++ List.replicate rest m1).length = rs.length := by rw [List.length_append, List.length_replicate, List.length_take]; omega
    rw [show cutV ((ps.take at0 ++ List.replicate rest m1).map V.ref) (some 1) none = _ from cutD (n := 1) (by rw [List.length_map, len1]; omega), ← List.map_drop] at g5
    have k8 := k7.trans t5
    have hcut : LL J8 m5 ((S.take at0 ++ List.replicate rest (List.replicate sz (0, 1))).drop 1) := by
      obtain ⟨as, e, hh⟩ := hlong7
      obtain rfl := ref_inj (g47.symm.trans e)
      exact ⟨_, g5, A2.drop 1 (hh.mono fun _ _ z => z.same t5)⟩
    have lS2 : ((S.take at0 ++ List.replicate rest (List.replicate sz ((0, 1) : Fr))).drop 1).length = rs.length - 1 := by rw [List.length_drop, lS']
    refine ⟨_, rfl, g, m5, b, rs, _, L, rfl, hg0.lk (lk k8), hcut, hb.same k8, tg.same k8, by omega, by omega, lL, .inr (.inl ⟨ex, by omega, fun J9 t l t9 ht hl => ?_⟩)⟩
    rw [lS2] at ht
    refine ⟨by show 3 ≤ sizeLine; decide, fun n5 e5 => ?_⟩
    have s5 := same_upd e5 (o := .lst [.bl false, .bl true, .bl false])
    have h5 := upd_same (H := J9) (a := n5) (o := HO.lst [.bl false, .bl true, .bl false])
    generalize upd J9 n5 _ = L1 at s5 h5
    refine ⟨_, rfl, _, _, rfl, rfl, by show 2 ≤ sizeLine; decide, fun n6 e6 => ?_⟩
    rw [show (fun i j => V.int (i - j)) ((xs.length : Nat) : Int) 1 = V.int ((rs.length - 1 : Nat) : Int) from congrArg V.int (by omega)] at *
    have s6 := same_upd e6 (o := .tup [.ref n5, .int ((rs.length - 1 : Nat) : Int)])
    have h6 := upd_same (H := L1) (a := n6) (o := HO.tup [.ref n5, .int ((rs.length - 1 : Nat) : Int)])
    generalize upd L1 n6 _ = L2 at s6 h6
    refine ⟨_, _, dR_dp (s6 _ _ (s5 _ _ ht)) (s6 _ _ (s5 _ _ hl)), dR_dp h6 (s6 _ _ h5), shaped_dR _ _ _ _, shaped_dR _ _ _ _, _, rfl, ?_⟩
    rw [eqv_dR]
    refine iteF ?_
    have k9 := k8.trans (t9.trans (s5.trans s6))
    have hcut9 := hcut.same (t9.trans (s5.trans s6))
    have kJ := t5.trans (t9.trans (s5.trans s6))
    clear s5 s6 t9 h5 h6 ht hl hlong pl1 t4 t5 g4 g5 hcut
    refine ⟨_, rfl, _, rfl, _, rfl, g, _, rfl, .of (k9 _ _ hgx), fun m6 f6 => ?_⟩
    have t6 := same_upd f6 (o := .lst (cutV xs none (some ((at0 : Nat) : Int))))
    have g6 := upd_same (H := L2) (a := m6) (o := HO.lst (cutV xs none (some ((at0 : Nat) : Int))))
    generalize upd L2 m6 _ = L3 at t6 g6
    rw [cutT rfl] at g6
    refine ⟨_, rfl, (xs.length : Nat), rfl, by omega, by omega, fun C nC => ?_⟩
    rw [Int.toNat_natCast]
    refine lc_inv (walk_range (lo := 0) (n := xs.length)) (fun i G ys => ∃ (as : List Addr), ys = as.map V.ref ∧ RN C L3 G as (List.replicate i [0])) nC (fun _ _ => trivial) (small' (by omega)) ⟨[], rfl, .nil⟩ (fun i x G Hx ys hi sm hC hR y Qt Qf qt qf => ?_) (fun G ys sm hC hR => ?_)
    · obtain ⟨rfl, rfl⟩ := y
      obtain ⟨as, rfl, hrn⟩ := hR
      refine ⟨rfl, by show 1 ≤ sizeLine; decide, fun u nu => ?_⟩
      have su := same_upd nu (o := .lst [.int 0])
      have uC : u ≠ C := fun z => by rw [z, hC] at nu; cases nu
      refine qt _ _ su ⟨as ++ [u], by rw [List.map_append]; rfl, ?_⟩
      rw [List.replicate_succ']
      exact hrn.snoc su uC (sm.free nu) upd_same
    obtain ⟨as, rfl, hrn⟩ := hR
    have hrow : RowL G C (List.replicate xs.length [0]) := ⟨as, hC, hrn.mono fun _ _ z => z.2⟩
    refine ⟨by show 2 ≤ sizeLine; decide, fun n5 e5 => ?_⟩
    have s5 := same_upd e5 (o := .tup [.str "sized", .ref C])
    have h5 := upd_same (H := G) (a := n5) (o := HO.tup [.str "sized", .ref C])
    generalize upd G n5 _ = L4 at s5 h5
    refine ⟨by show 1 ≤ sizeLine; decide, fun n6 e6 => ?_⟩
    have s6 := same_upd e6 (o := .lst [.ref n5])
    have h6 := upd_same (H := L4) (a := n6) (o := HO.lst [.ref n5])
    generalize upd L4 n6 _ = L5 at s6 h6
    refine ⟨_, rfl, _, rfl, _, _, rfl, rfl, ?_⟩
    rw [show (fun i j => V.int (i - j)) ((xs.length : Nat) : Int) ((at0 : Nat) : Int) = V.int ((rest : Nat) : Int) from congrArg V.int erest]
    refine ⟨n6, ((rest : Nat) : Int), [.ref n5], rfl, rfl, h6, by omega, by omega, by show 1 * _ ≤ sizeLine; exact small (by omega), fun m3 f3 => ?_⟩
    have t3 := same_upd f3 (o := .lst (List.replicate ((rest : Nat) : Int).toNat [V.ref n5]).flatten)
    have g3 := upd_same (H := L5) (a := m3) (o := HO.lst (List.replicate ((rest : Nat) : Int).toNat [V.ref n5]).flatten)
    generalize upd L5 m3 _ = L6 at t3 g3
    rw [rep_flat, Int.toNat_natCast] at g3
    have t7 := sm.trans (s5.trans (s6.trans t3))
    refine ⟨m6, m3, xs.take at0, List.replicate rest (V.ref n5), rfl, rfl, t7 _ _ g6, g3, by rw [List.length_replicate, List.length_take]; exact small (by omega), fun m8 f8 => ?_⟩
    have t8 := same_upd f8 (o := .lst (xs.take at0 ++ List.replicate rest (V.ref n5)))
    have g8 := upd_same (H := L6) (a := m8) (o := HO.lst (xs.take at0 ++ List.replicate rest (V.ref n5)))
    generalize upd L6 m8 _ = L7 at t8 g8
    have k10 := k9.trans (t6.trans (t7.trans t8))
    have kG := s5.trans (s6.trans (t3.trans t8))
    have hgr : GR K L7 m8 (rs.take at0 ++ List.replicate rest (false, List.replicate xs.length [0])) :=
      ⟨_, g8, A2.app (A2.rep (show RwV K L7 (.ref n5) (false, List.replicate xs.length [0]) from ⟨n5, C, rfl, .of ((s6.trans (t3.trans t8)) _ _ h5), hrow.lk (lk kG)⟩) rest) ((A2.take at0 hA).mono fun _ _ z => z.lk (lk k10))⟩
    have hll := hcut9.same (t6.trans (t7.trans t8))
    have kJ7 := kJ.trans (t6.trans (t7.trans t8))
    refine ⟨_, rfl, _, rfl, _, rfl, m4, _, rfl, .of (kJ7 _ _ g47), fun m9 f9 => ?_⟩
    have t9 := same_upd f9 (o := .lst (cutV ((ps.take at0 ++ List.replicate rest m1).map V.ref) (some 1) none))
    have g9 := upd_same (H := L7) (a := m9) (o := HO.lst (cutV ((ps.take at0 ++ List.replicate rest m1).map V.ref) (some 1) none))
    generalize upd L7 m9 _ = L8 at t9 g9
    rw [show cutV ((ps.take at0 ++ List.replicate rest m1).map V.ref) (some 1) none = _ from cutD (n := 1) (by rw [List.length_map, len1]; omega), ← List.map_drop] at g9
    have k11 := k10.trans t9
    have hcut2 : LL L8 m9 ((S.take at0 ++ List.replicate rest (List.replicate sz (0, 1))).drop 1) := by
      obtain ⟨as, e, hh⟩ := hlong7
      obtain rfl := ref_inj (g47.symm.trans e)
      exact ⟨_, g9, A2.drop 1 (hh.mono fun _ _ z => z.same (kJ7.trans t9))⟩
    refine ⟨_, rfl, m8, m9, b, _, _, L, rfl, hgr.lk (lk t9), hcut2, hb.same k11, tg.same k11, by rw [List.length_append, List.length_replicate, List.length_take]; omega, by omega, lL, .inl ⟨at0, (false, List.replicate xs.length [0]), ?_, rfl, ?_, fun M1 t l u1 ht hl => ?_⟩⟩
    · rw [List.getElem?_append_right (by rw [List.length_take]; omega), List.length_take, Nat.min_eq_left (by omega), Nat.sub_self, List.getElem?_replicate]
      exact if_pos (by omega)
    · intro x hx
      rw [List.take_append_of_le_length (by rw [List.length_take]; omega)] at hx
      exact ex x (List.mem_of_mem_take (List.mem_of_mem_take hx))
    refine ⟨by show 3 ≤ sizeLine; decide, fun n5 e5 => ?_⟩
    have s5 := same_upd e5 (o := .lst [.bl true, .bl false, .bl false])
    have h5 := upd_same (H := M1) (a := n5) (o := HO.lst [.bl true, .bl false, .bl false])
    generalize upd M1 n5 _ = M2 at s5 h5
    refine ⟨_, rfl, by show 2 ≤ sizeLine; decide, fun n6 e6 => ?_⟩
    have s6 := same_upd e6 (o := .tup [.ref n5, .int ((at0 : Nat) : Int)])
    have h6 := upd_same (H := M2) (a := n6) (o := HO.tup [.ref n5, .int ((at0 : Nat) : Int)])
    generalize upd M2 n6 _ = M3 at s6 h6
    refine ⟨_, _, dR_dp (s6 _ _ (s5 _ _ ht)) (s6 _ _ (s5 _ _ hl)), dR_dp h6 (s6 _ _ h5), shaped_dR _ _ _ _, shaped_dR _ _ _ _, ?_⟩
    rw [eqv_dR]
    exact q _
end
end K70
-- S70
set_option exponentiation.threshold 3000

namespace K70
open PySem PySem.Spec PyProof.Rows L2
open QF (low sg gc)
/-! ### spoilt -/
/-- lists of fractions at D, all new behind H0 and there at H1 -/
def GLs (H0 H1 H : Hp) (D : Addr) (n : Nat) (ok : List Fr → Prop) : Prop := H0 D = none ∧ H1 D ≠ none ∧ ∃ cs : List Addr, H D = some (.lst (cs.map V.ref)) ∧ cs.length = n ∧ ∀ c ∈ cs, c ≠ D ∧ H0 c = none ∧ H1 c ≠ none ∧ ∃ l, PL H c l ∧ ok l
/-- what becomes of them -/
def PNN (H0 H : Hp) (q : Addr) (L : List (List Fr)) : Prop := H0 q = none ∧ ∃ cs : List Addr, H q = some (.lst (cs.map V.ref)) ∧ A2 (fun c l => H0 c = none ∧ PL H c l) cs L
def Fin4 (H0 H : Hp) (q : Addr) (n : Nat) (ok : List Fr → Prop) : Prop := ∃ L, PNN H0 H q L ∧ L.length = n ∧ ∀ l ∈ L, ok l
theorem PNN.ll {H0 H : Hp} {q : Addr} {L : List (List Fr)} (h : PNN H0 H q L) : LL H q L := let ⟨_, cs, a, b⟩ := h; ⟨cs, a, b.mono fun _ _ z => z.2⟩
theorem choose_pl {H0 H : Hp} {ok : List Fr → Prop} : ∀ {cs : List Addr}, (∀ c ∈ cs, H0 c = none ∧ ∃ l, PL H c l ∧ ok l) → ∃ L, A2 (fun c l => H0 c = none ∧ PL H c l) cs L ∧ ∀ l ∈ L, ok l
  | [], _ => ⟨[], .nil, fun _ z => by cases z⟩
  | c :: cs, h => by
    obtain ⟨n, l, hl, ol⟩ := h c List.mem_cons_self
    obtain ⟨L, hA, hO⟩ := choose_pl (cs := cs) fun x hx => h x (List.mem_cons_of_mem _ hx)
    exact ⟨l :: L, .cons ⟨n, hl⟩ hA, fun x hx => by
      rcases List.mem_cons.mp hx with rfl | hx
      · exact ol
      · exact hO x hx⟩
theorem fin_of {H0 H : Hp} {q : Addr} {cs : List Addr} {n : Nat} {ok : List Fr → Prop} (nq : H0 q = none) (hq : H q = some (.lst (cs.map V.ref))) (ln : cs.length = n) (h : ∀ c ∈ cs, H0 c = none ∧ ∃ l, PL H c l ∧ ok l) : Fin4 H0 H q n ok := by
  obtain ⟨L, hA, hO⟩ := choose_pl h
  exact ⟨L, ⟨nq, cs, hq, hA⟩, by rw [← hA.len, ln], hO⟩
theorem pl_upd {H : Hp} {c x : Addr} {ys zs : List V} {l : List Fr} (h : PL H c l) (n : c ≠ x) (hx : H x = some (.lst ys)) : PL (upd H x (.lst zs)) c l := by
  obtain ⟨as, e, hA⟩ := h
  refine ⟨as, by rw [upd_ne n]; exact e, hA.mono fun a r z => ?_⟩
  have : a ≠ x := fun w => by
    have z : H a = _ := z
    rw [w, hx] at z
    cases z
  exact (upd_ne this).trans z
section
variable {H0 H1 H : Hp} {D : Addr} {n : Nat} {ok ok' : List Fr → Prop}
theorem GLs.fin (h : GLs H0 H1 H D n ok) (w : ∀ l, ok l → ok' l) : Fin4 H0 H D n ok' := let ⟨a, _, cs, b, c, d⟩ := h; fin_of a b c fun x hx => let ⟨_, p, _, l, q, r⟩ := d x hx; ⟨p, l, q, w l r⟩
theorem GLs.same {H' : Hp} (s : Same H H') (h : GLs H0 H1 H D n ok) : GLs H0 H1 H' D n ok := let ⟨a, b, cs, c, d, e⟩ := h; ⟨a, b, cs, s _ _ c, d, fun x hx => let ⟨p, q, r, l, t, u⟩ := e x hx; ⟨p, q, r, l, t.same s, u⟩⟩
/-- something else has changed -/
theorem GLs.other (h : GLs H0 H1 H D n ok) (w : ∀ l, ok l → ok' l) {x : Addr} {ys zs : List V} (hx : H x = some (.lst ys)) (no : H0 x ≠ none ∨ H1 x = none) : Fin4 H0 (upd H x (.lst zs)) D n ok' := by
  obtain ⟨a, b, cs, c, d, e⟩ := h
  have ne : ∀ y, H0 y = none → H1 y ≠ none → y ≠ x := fun y p q z => by
    subst z
    rcases no with h | h
    · exact h p
    · exact q h
  refine fin_of a (by rw [upd_ne (ne _ a b)]; exact c) d fun y hy => ?_
  obtain ⟨_, p, q, l, t, u⟩ := e y hy
  exact ⟨p, l, pl_upd t (ne _ p q) hx, w l u⟩
/-- one of the lists has changed -/
theorem GLs.inner (h : GLs H0 H1 H D n ok) (w : ∀ l, ok l → ok' l) {x : Addr} {ys zs : List V} {l' : List Fr} (hx : H x = some (.lst ys)) (nD : x ≠ D) (hl : PL (upd H x (.lst zs)) x l') (ol : ok' l') : Fin4 H0 (upd H x (.lst zs)) D n ok' := by
  obtain ⟨a, b, cs, c, d, e⟩ := h
  refine fin_of a (by rw [upd_ne nD.symm]; exact c) d fun y hy => ?_
  obtain ⟨_, p, q, l, t, u⟩ := e y hy
  by_cases z : y = x
  · subst z
    exact ⟨p, l', hl, ol⟩
  · exact ⟨p, l, pl_upd t z hx, w l u⟩
/-- a list is put in another's place -/
theorem GLs.outer (h : GLs H0 H1 H D n ok) (w : ∀ l, ok l → ok' l) {z : Addr} {j : Nat} {l' : List Fr} {cs : List Addr} (hD : H D = some (.lst (cs.map V.ref))) (nz : H0 z = none) (zD : z ≠ D) (hl : PL H z l') (ol : ok' l') : Fin4 H0 (upd H D (.lst ((cs.map V.ref).set j (.ref z)))) D n ok' := by
  obtain ⟨a, b, cs', c, d, e⟩ := h
  obtain rfl := ref_inj (hD.symm.trans c)
  refine fin_of (cs := cs.set j z) a (by rw [upd_same, List.map_set]) (by rw [List.length_set]; exact d) fun y hy => ?_
  rcases List.mem_or_eq_of_mem_set hy with hy | rfl
  · obtain ⟨nd, p, q, l, t, u⟩ := e y hy
    exact ⟨p, l, pl_upd t nd hD, w l u⟩
  · exact ⟨nz, l', pl_upd hl zD hD, ol⟩
theorem Fin4.base {H2 : Hp} (s : Same H2 H0) (h : Fin4 H0 H D n ok) : Fin4 H2 H D n ok := let ⟨L, ⟨a, cs, b, c⟩, d, e⟩ := h; ⟨L, ⟨s.free a, cs, b, c.mono fun _ _ z => ⟨s.free z.1, z.2⟩⟩, d, e⟩
theorem Fin4.same {H' : Hp} (s : Same H H') (h : Fin4 H0 H D n ok) : Fin4 H0 H' D n ok := let ⟨L, ⟨a, cs, b, c⟩, d, e⟩ := h; ⟨L, ⟨a, cs, s _ _ b, c.mono fun _ _ z => ⟨z.1, z.2.same s⟩⟩, d, e⟩
end
def R6 (v : Fr) : Prop := v.1.natAbs ≤ 10 ^ 6 ∧ 0 < v.2 ∧ v.2.natAbs ≤ 10 ^ 6
theorem R6.rr {v : Fr} (h : R6 v) : Rr v := ⟨Nat.le_trans h.1 (by decide), h.2.1, Nat.le_trans h.2.2 (by decide)⟩
def oL (l : List Fr) : Prop := l.length ≤ 12 ∧ ∀ v ∈ l, R6 v
def fL (l : List Fr) : Prop := l.length ≤ 12 ∧ ∀ v ∈ l, Rr v
theorem oL.f (l : List Fr) (h : oL l) : fL l := ⟨h.1, fun v hv => (h.2 v hv).rr⟩
def Vw (v : Fr) : Prop := v.1.natAbs < 2 ^ 1643 ∧ 0 < v.2 ∧ v.2.natAbs < 2 ^ 1503 ∧ low v.1 v.2 = v
def oS (l : List Fr) : Prop := l.length ≤ 12 ∧ ∀ v ∈ l, Vok v
def fS (l : List Fr) : Prop := l.length ≤ 12 ∧ ∀ v ∈ l, Vw v
theorem Vok.w {v : Fr} (h : Vok v) : Vw v := ⟨Nat.lt_trans h.1 (Nat.pow_lt_pow_right (by decide) (by decide)), h.2.1, Nat.lt_trans h.2.2.1 (Nat.pow_lt_pow_right (by decide) (by decide)), h.2.2.2⟩
theorem oS.f (l : List Fr) (h : oS l) : fS l := ⟨h.1, fun v hv => (h.2 v hv).w⟩
theorem low_two {n d m e B C : Int} (hd : 0 < d) (he : 0 < e) : 0 < (low (n * e + m * d) (d * e)).2 ∧ (low (n * e + m * d) (d * e)).1.natAbs ≤ (n * e + m * d).natAbs ∧ (low (n * e + m * d) (d * e)).2.natAbs ≤ (d * e).natAbs ∧ low (low (n * e + m * d) (d * e)).1 (low (n * e + m * d) (d * e)).2 = low (n * e + m * d) (d * e) := by
  have h : d * e ≠ 0 := Int.ne_of_gt (Int.mul_pos hd he)
  have a := QF.low_abs (n := n * e + m * d) h
  obtain ⟨_, _, _, _, pos, _⟩ := QF.low_is (n := n * e + m * d) h
  exact ⟨pos, a.1, a.2, QF.low_low h⟩
theorem r6_add {v : Fr} {e : Int} (h : R6 v) (he : e = 1 ∨ e = 2) : Rr (low (v.1 * e + 1 * v.2) (v.2 * e)) := by
  obtain ⟨h1, h2, h3⟩ := h
  obtain ⟨a, b, c, _⟩ := low_two (n := v.1) (m := 1) (B := 0) (C := 0) h2 (show 0 < e by omega)
  refine ⟨Nat.le_trans b ?_, a, Nat.le_trans c ?_⟩ <;> rcases he with rfl | rfl <;> omega
theorem vok_add {v : Fr} {e : Int} (h : Vok v) (he : e = 1 ∨ e = 2) : Vw (low (v.1 * e + -1 * v.2) (v.2 * e)) := by
  obtain ⟨h1, h2, h3, _⟩ := h
  obtain ⟨a, b, c, d⟩ := low_two (n := v.1) (m := -1) (B := 0) (C := 0) h2 (show 0 < e by omega)
  have p1 : (2 : Nat) ^ 1643 = 8 * 2 ^ 1640 := by rw [show 1643 = 3 + 1640 from rfl, Nat.pow_add]
  have p2 : (2 : Nat) ^ 1503 = 8 * 2 ^ 1500 := by rw [show 1503 = 3 + 1500 from rfl, Nat.pow_add]
  have p3 : (2 : Nat) ^ 1500 ≤ 2 ^ 1640 := Nat.pow_le_pow_right (by decide) (by decide)
  refine ⟨Nat.lt_of_le_of_lt b ?_, a, Nat.lt_of_le_of_lt c ?_, d⟩
  · rw [p1]
    generalize (2 : Nat) ^ 1640 = X at *
    generalize (2 : Nat) ^ 1500 = Y at *
    rcases he with rfl | rfl <;> omega
  · rw [p2]
    generalize (2 : Nat) ^ 1500 = Y at *
    rcases he with rfl | rfl <;> omega
theorem two {A B : Prop} (h : A) (f : A → B) : B := f h
theorem a2_set {α β : Type} {R : α → β → Prop} {x : α} {y : β} (h : R x y) : ∀ {as : List α} {bs : List β} (i : Nat), A2 R as bs → A2 R (as.set i x) (bs.set i y)
  | _, _, _, .nil => .nil
  | _, _, 0, .cons _ r => .cons h r
  | _, _, i + 1, .cons a r => .cons a (a2_set h i r)
theorem pl_set {H : Hp} {c p : Addr} {as : List Addr} {l : List Fr} {v : Fr} (i : Nat) (hc : H c = some (.lst (as.map V.ref))) (hA : A2 (PR H) as l) (hp : PR H p v) : PL (upd H c (.lst ((as.map V.ref).set i (.ref p)))) c (l.set i v) := by
  have ne : ∀ a r, PR H a r → PR (upd H c (.lst ((as.map V.ref).set i (.ref p)))) a r := fun a r z => by
    have : a ≠ c := fun w => by
      have z : H a = _ := z
      rw [w, hc] at z
      cases z
    exact (upd_ne this).trans z
  exact ⟨as.set i p, by rw [upd_same, List.map_set], (a2_set hp i hA).mono ne⟩
theorem ok_set {l : List Fr} {i : Nat} {v : Fr} {Q : Fr → Prop} (h : ∀ x ∈ l, Q x) (hv : Q v) : ∀ x ∈ l.set i v, Q x := fun x hx => by
  rcases List.mem_or_eq_of_mem_set hx with hx | rfl
  · exact h x hx
  · exact hv
theorem nil_eqv {l : List Fr} (h : (!PyData.eqv (dPL l) (.list [])) = true) : 0 < l.length := by
  cases l with
  | nil => exact absurd h (by decide)
  | cons a r => exact Nat.succ_pos _
theorem cut_a2 {α : Type} {R : Addr → α → Prop} {as : List Addr} {bs : List α} (lo hi : Option Int) (h : A2 R as bs) : ∃ as' bs', cutV (as.map V.ref) lo hi = as'.map V.ref ∧ A2 R as' bs' ∧ bs'.length ≤ bs.length ∧ (∀ x ∈ bs', x ∈ bs) ∧ ∀ x ∈ as', x ∈ as := by
  unfold cutV
  generalize (List.map V.ref as).length = len
  refine ⟨_, _, by rw [← List.map_drop, ← List.map_take], A2.take _ (A2.drop _ h), ?_, fun x hx => List.mem_of_mem_drop (List.mem_of_mem_take hx), fun x hx => List.mem_of_mem_drop (List.mem_of_mem_take hx)⟩
  rw [List.length_take, List.length_drop]
  omega
theorem a2_self {α : Type} : ∀ (as : List α), A2 (fun a b => a = b) as as
  | [] => .nil
  | _ :: r => .cons rfl (a2_self r)
def CS (H0 H : Hp) (D : Addr) (cs : List Addr) (ok : List Fr → Prop) : Prop := ∀ c ∈ cs, c ≠ D ∧ H0 c = none ∧ ∃ l, PL H c l ∧ ok l
theorem CS.step {H0 H H4 : Hp} {D u : Addr} {cs : List Addr} {ok : List Fr → Prop} {ys zs : List V} {l : List Fr} (h : CS H0 H D cs ok) (s : Same H H4) (hD : H4 D = some (.lst ys)) (n0 : H0 u = none) (nD : u ≠ D) (hl : PL H4 u l) (ol : ok l) : CS H0 (upd H4 D (.lst zs)) D (cs ++ [u]) ok := by
  intro c hc
  rcases List.mem_append.mp hc with hc | hc
  · obtain ⟨a, b, l2, p, o⟩ := h c hc
    exact ⟨a, b, l2, pl_upd (p.same s) a hD, o⟩
  · obtain rfl := List.mem_singleton.mp hc
    exact ⟨nD, n0, l, pl_upd hl nD hD, ol⟩
theorem CS.gl {H0 H : Hp} {D : Addr} {cs : List Addr} {n : Nat} {ok : List Fr → Prop} (h : CS H0 H D cs ok) (nD : H0 D = none) (hD : H D = some (.lst (cs.map V.ref))) (e : cs.length = n) : GLs H0 H H D n ok :=
  ⟨nD, (by rw [hD]; exact fun z => nomatch z), cs, hD, e, fun c hc => by
    obtain ⟨a, b, l, p, o⟩ := h c hc
    refine ⟨a, b, ?_, l, p, o⟩
    obtain ⟨as, e, _⟩ := p
    rw [e]
    exact fun z => nomatch z⟩
section
variable {P : Program} {w : World} {K : PySem.W.Frag} {mg : Str → Option Value} {base : Heap} {Ps : List Addr}
def TSp (a : Addr) (k : Int) (ds : List Int) (n : Nat) (H : Hp) : TS := fun Dn σ G => ∃ (q1 q2 : Addr) (word : Int) (j : Nat) (H2 H3 : Hp), σ = [some (.ref a), some (.int k), some (.ref q1), some (.ref q2), some (.int word), some (.int (j : Nat)), none, none, none] ∧ IL H a ds ∧ 0 ≤ k ∧ Same H H2 ∧ Same H2 H3 ∧ Same H3 G ∧ GLs H H2 G q1 n oL ∧ GLs H2 H3 G q2 n oS ∧ n ≤ 16 ∧ j < n ∧ H q2 = none ∧
  ∀ G' q1' v6 n', Same H G' → Fin4 H G' q1' n' fL → n' ≤ 17 → Fin4 H G' q2 n fS → Dn.nx [some (.ref a), some (.int k), some (.ref q1'), some (.ref q2), some (.int word), some (.int (j : Nat)), v6, none, none] G'
def sp_law_spoilt : Sp := fun vs H Q _ => ∃ (a b p : Addr) (k : Int) (ds : List Int) (L S : List (List Fr)) (n : Nat), vs = [.ref a, .int k, .ref b, .ref p] ∧ IL H a ds ∧ 0 ≤ k ∧ LL H b L ∧ LL H p S ∧ (∀ l ∈ L, oL l) ∧ (∀ l ∈ S, oS l) ∧ L.length = n ∧ S.length = n ∧ n ≤ 16 ∧
  ∀ H' t q1 q2 n', Same H H' → H' t = some (.tup [.ref q1, .ref q2]) → Fin4 H H' q1 n' fL → n' ≤ 17 → Fin4 H H' q2 n fS → Q (.ref t) H'
theorem ok_law_spoilt (T : Txt K mg) : FnOk P w K mg base CX0 4 T.law_spoilt.a T.law_spoilt.fd ["draws", "k", "lists", "sources"] sp_law_spoilt := by
  refine T.law_spoilt.F.ok sc_law_spoilt (fun vs H Q E h => ?_) (fun cdv A outer s H vs Q E hr h => ?_)
  · obtain ⟨a, b, p, k, ds, L, S, n, rfl, _⟩ := h
    rfl
  · obtain ⟨a, b, p, k, ds, L, S, n, rfl, ha, hk, hb, hp, okL, okS, lL, lS, hn, q⟩ := h
    refine ⟨_, (pss_cons (ps_setLc (i := 2) (own := [("values", 7)]) rfl sc_law_spoilt.nd rfl rfl (sw_true rfl rfl rfl (by decide +kernel)) (pi_list (pv 2)) (blkOk_by (N := ["draws", "k", "lists", "sources", "word", "j", "at", "values", "source"]) (sc := defScope s_law_spoilt) (by decide +kernel)) (fun _ _ _ _ _ => (pg_name (i := 7) sc_law_spoilt.nd rfl (.inl rfl))) (fun _ _ _ _ _ => pts_nil) (fun _ _ _ _ _ => (pe_callTy (T := "list") (r := rListC K) call_listC (by rfl) T.m_list (by decide +kernel) (pa_cons (pv 7) pa_nil))))
      (pss_cons (ps_setLc (i := 3) (own := [("source", 8)]) rfl sc_law_spoilt.nd rfl rfl (sw_true rfl rfl rfl (by decide +kernel)) (pi_list (pv 3)) (blkOk_by (N := ["draws", "k", "lists", "sources", "word", "j", "at", "values", "source"]) (sc := defScope s_law_spoilt) (by decide +kernel)) (fun _ _ _ _ _ => (pg_name (i := 8) sc_law_spoilt.nd rfl (.inl rfl))) (fun _ _ _ _ _ => pts_nil) (fun _ _ _ _ _ => (pe_callTy (T := "list") (r := rListC K) call_listC (by rfl) T.m_list (by decide +kernel) (pa_cons (pv 8) pa_nil))))
      (pss_cons (ps_set (i := 4) sc_law_spoilt.nd rfl (.inl rfl) (pe_call (ok_law_mix T) (hr.mono (by decide)) (by rfl) T.law_mix.g T.law_mix.F.kp T.law_mix.b .nil pass0 (pa_cons (pv 0) (pa_cons (pv 1) (pa_cons pe_int pa_nil)))))
      (pss_cons (ps_if (PW.pt (pw_or (pt_cmpR (op_eqD hr.units) (pv 2) (pe_lst pa_nil) (nomark _)) (pw_or1 (pt_cmpR op_eq (pv 4) pe_int (nomark _)))))
        (pss_one (ps_ret (pe_tup (pa_cons (pe_op op_cat (pv 2) (pe_lst (pa_cons (pe_lst (pa_cons (pe_tup (pa_cons pe_int (pa_cons pe_int pa_nil))) pa_nil)) pa_nil))) (pa_cons (pv 3) pa_nil)))))
        pss_nil)
      (pss_cons (ps_set (i := 5) sc_law_spoilt.nd rfl (.inl rfl) (pe_call (ok_law_mix T) (hr.mono (by decide)) (by rfl) T.law_mix.g T.law_mix.F.kp T.law_mix.b .nil pass0 (pa_cons (pv 0) (pa_cons (pe_op op_add (pv 1) pe_int) (pa_cons (pe_callB call_len_seq (by rfl) T.m_len (by decide +kernel) (pa_cons (pv 2) pa_nil)) pa_nil)))))
      (pss_cons (ps_via (t' := TSp a k ds n H) (ps_if (PW.pt (pw_and (pt_cmpR op_eq (pv 4) pe_int (nomark _)) (pw_and1 (pt_cmpR (op_neD hr.units) (pe_ix ix_list (pv 2) (pv 5) (fun _ _ => rfl)) (pe_lst pa_nil) (nomark _)))))
        (pss_cons (ps_set (i := 6) sc_law_spoilt.nd rfl (.inl rfl) (pe_call (ok_law_mix T) (hr.mono (by decide)) (by rfl) T.law_mix.g T.law_mix.F.kp T.law_mix.b .nil pass0 (pa_cons (pv 0) (pa_cons (pe_op op_add (pv 1) pe_int) (pa_cons (pe_callB call_len_seq (by rfl) T.m_len (by decide +kernel) (pa_cons (pe_ix ix_list (pv 2) (pv 5) (fun _ _ => rfl)) pa_nil)) pa_nil)))))
        (pss_one (ps_asg (pe_call (ok_law_add T) (hr.mono (by decide)) (by rfl) T.law_add.g T.law_add.F.kp T.law_add.b .nil pass0 (pa_cons (pe_ix ix_list (pe_ix ix_list (pv 2) (pv 5) (fun _ _ => rfl)) (pv 6) (fun _ _ => rfl)) (pa_cons (pe_tup (pa_cons pe_int (pa_cons (pe_op op_add pe_int (pe_call (ok_law_mix T) (hr.mono (by decide)) (by rfl) T.law_mix.g T.law_mix.F.kp T.law_mix.b .nil pass0 (pa_cons (pv 0) (pa_cons (pe_op op_add (pv 1) pe_int) (pa_cons pe_int pa_nil))))) pa_nil))) pa_nil))) (pg_sub (pe_ix ix_list (pv 2) (pv 5) (fun _ _ => rfl)) (pv 6) set_list))))
        (pss_one (ps_via (t' := TSp a k ds n H) (ps_if (PW.pt (pw_and (pt_cmpR op_eq (pv 4) pe_int (nomark _)) (pw_and1 (pt_cmpR (op_neD hr.units) (pe_ix ix_list (pv 3) (pv 5) (fun _ _ => rfl)) (pe_lst pa_nil) (nomark _)))))
          (pss_cons (ps_set (i := 6) sc_law_spoilt.nd rfl (.inl rfl) (pe_call (ok_law_mix T) (hr.mono (by decide)) (by rfl) T.law_mix.g T.law_mix.F.kp T.law_mix.b .nil pass0 (pa_cons (pv 0) (pa_cons (pe_op op_add (pv 1) pe_int) (pa_cons (pe_callB call_len_seq (by rfl) T.m_len (by decide +kernel) (pa_cons (pe_ix ix_list (pv 3) (pv 5) (fun _ _ => rfl)) pa_nil)) pa_nil)))))
          (pss_one (ps_asg (pe_call (ok_law_add T) (hr.mono (by decide)) (by rfl) T.law_add.g T.law_add.F.kp T.law_add.b .nil pass0 (pa_cons (pe_ix ix_list (pe_ix ix_list (pv 3) (pv 5) (fun _ _ => rfl)) (pv 6) (fun _ _ => rfl)) (pa_cons (pe_tup (pa_cons (pe_un un_neg pe_int) (pa_cons (pe_op op_add pe_int (pe_call (ok_law_mix T) (hr.mono (by decide)) (by rfl) T.law_mix.g T.law_mix.F.kp T.law_mix.b .nil pass0 (pa_cons (pv 0) (pa_cons (pe_op op_add (pv 1) pe_int) (pa_cons pe_int pa_nil))))) pa_nil))) pa_nil))) (pg_sub (pe_ix ix_list (pv 3) (pv 5) (fun _ _ => rfl)) (pv 6) set_list))))
          (pss_one (ps_via (t' := TSp a k ds n H) (ps_if (pt_cmpR op_eq (pv 4) pe_int (nomark _))
            (pss_one (ps_asg (pe_slice sl_list (pe_ix ix_list (pv 2) (pv 5) (fun _ _ => rfl)) po_none (po_some (pe_un un_neg pe_int))) (pg_sub (pv 2) (pv 5) set_list)))
            (pss_one (ps_if (pt_cmpR op_eq (pv 4) pe_int (nomark _))
              (pss_one (ps_set (i := 2) sc_law_spoilt.nd rfl (.inl rfl) (pe_slice sl_list (pv 2) (po_some pe_int) po_none)))
              (pss_one (ps_if (pt_cmpR op_lt (pe_callB call_len_seq (by rfl) T.m_len (by decide +kernel) (pa_cons (pe_ix ix_list (pv 3) (pv 5) (fun _ _ => rfl)) pa_nil)) pe_int (nomark _))
                (pss_one (ps_asg (pe_op op_cat (pe_ix ix_list (pv 3) (pv 5) (fun _ _ => rfl)) (pe_lst (pa_cons (pe_tup (pa_cons (pe_call (ok_law_mix T) (hr.mono (by decide)) (by rfl) T.law_mix.g T.law_mix.F.kp T.law_mix.b .nil pass0 (pa_cons (pv 0) (pa_cons (pe_op op_add (pv 1) pe_int) (pa_cons pe_int pa_nil)))) (pa_cons pe_int pa_nil))) pa_nil))) (pg_sub (pv 3) (pv 5) set_list)))
                pss_nil))))) ?tz))) ?ty))) ?tx)
      (pss_one (ps_ret (pe_tup (pa_cons (pv 2) (pa_cons (pv 3) pa_nil))))))))))), ?_⟩
    case tx =>
      intro Dn σ G h
      obtain ⟨q1, q2, word, j, H2, H3, rfl, ha, hk, s02, s23, s3G, g1, g2, hn, hj, nq2, nx⟩ := h
      obtain ⟨nD, nb, cs, hD, lc, hcs⟩ := id g1
      obtain ⟨nD2, nb2, es, hE, le, hes⟩ := id g2
      obtain ⟨c, ec⟩ : ∃ c, cs[j]? = some c := ⟨_, List.getElem?_eq_getElem (by omega)⟩
      obtain ⟨e, ee⟩ : ∃ e, es[j]? = some e := ⟨_, List.getElem?_eq_getElem (by omega)⟩
      obtain ⟨cD, nc0, nc1, l, hl, okl⟩ := hcs c (List.mem_of_getElem? ec)
      obtain ⟨eD, ne0, ne1, m, hm, okm⟩ := hes e (List.mem_of_getElem? ee)
      have atc : atI (cs.map V.ref) ((j : Nat) : Int) = some (.ref c) := atI_nat (by rw [List.getElem?_map, ec]; rfl)
      have ate : atI (es.map V.ref) ((j : Nat) : Int) = some (.ref e) := atI_nat (by rw [List.getElem?_map, ee]; rfl)
      have sG := s02.trans (s23.trans s3G)
      have els : ∀ G', Same G G' → TSp a k ds n H Dn [some (.ref a), some (.int k), some (.ref q1), some (.ref q2), some (.int word), some (.int (j : Nat)), none, none, none] G' := fun G' s => ⟨q1, q2, word, j, H2, H3, rfl, ha, hk, s02, s23, s3G.trans s, g1.same s, g2.same s, hn, hj, nq2, nx⟩
      refine ⟨_, rfl, rfl, _, rfl, ite2 (fun w1 => ?_) (fun _ => iteF (els _ (.refl _)))⟩
      refine ⟨_, rfl, _, rfl, q1, _, _, _, rfl, rfl, .of hD, atc, by show 0 ≤ sizeLine; decide, fun z nz => ?_⟩
      have sz := same_upd nz (o := .lst [])
      have hz := upd_same (H := G) (a := z) (o := HO.lst [])
      generalize upd G z _ = G1 at sz hz
      refine ⟨dPL l, .list [], dp_pl (hl.same sz), .lst (.of hz) .nil, shaped_dPL _, rfl, _, rfl, ite2 (fun w2 => ?_) (fun _ => els _ sz)⟩
      have lpos : 0 < l.length := nil_eqv w2
      have hD1 := sz _ _ hD
      obtain ⟨as, hc, hA⟩ := hl.same sz
      have la := hA.len
      have ha1 := ha.same (sG.trans sz)
      refine ⟨_, rfl, _, rfl, _, _, rfl, rfl, _, rfl, _, rfl, q1, _, _, _, rfl, rfl, .of hD1, atc, c, _, rfl, .inl (.of hc), a, ds, _, _, rfl, ha1, by omega, by rw [List.length_map]; omega, fun r r0 r1 => ?_⟩
      rw [List.length_map] at r1
      obtain ⟨i, rfl⟩ : ∃ i : Nat, r = (i : Nat) := ⟨r.toNat, by omega⟩
      obtain ⟨x, ex⟩ : ∃ x, as[i]? = some x := ⟨_, List.getElem?_eq_getElem (by omega)⟩
      obtain ⟨v, ev, hv⟩ := hA.get ex
      have atx : atI (as.map V.ref) ((i : Nat) : Int) = some (.ref x) := atI_nat (by rw [List.getElem?_map, ex]; rfl)
      refine ⟨_, rfl, _, rfl, q1, _, _, _, rfl, rfl, .of hD1, atc, _, rfl, c, _, _, _, rfl, rfl, .of hc, atx, _, rfl, _, rfl, _, _, rfl, rfl, a, ds, _, 2, rfl, ha1, by omega, by decide, fun f f0 f1 => ?_⟩
      refine ⟨_, _, rfl, rfl, by show 2 ≤ sizeLine; decide, fun u nu => ?_⟩
      have su := same_upd nu (o := .tup [.int (1), .int (1 + f)])
      have hu := upd_same (H := G1) (a := u) (o := HO.tup [.int (1), .int (1 + f)])
      generalize upd G1 u _ = G2 at su hu
      have e12 : 1 + f = 1 ∨ 1 + f = 2 := by omega
      generalize 1 + f = ff at *
      have okv := okl.2 v (List.mem_of_getElem? ev)
      refine ⟨x, u, v.1, v.2, 1, ff, rfl, .of (su _ _ hv), .of hu, ⟨by have := okv.2.1; omega, by omega, Nat.lt_of_le_of_lt okv.1 (by decide +kernel), Nat.lt_of_le_of_lt okv.2.2 (by decide +kernel), by decide, by rcases e12 with rfl | rfl <;> decide⟩, fun p np => ?_⟩
      have sp := same_upd np (o := .tup [.int (low (v.1 * ff + (1) * v.2) (v.2 * ff)).1, .int (low (v.1 * ff + (1) * v.2) (v.2 * ff)).2])
      have hp := upd_same (H := G2) (a := p) (o := HO.tup [.int (low (v.1 * ff + (1) * v.2) (v.2 * ff)).1, .int (low (v.1 * ff + (1) * v.2) (v.2 * ff)).2])
      generalize upd G2 p _ = G3 at sp hp
      have s3 := su.trans sp
      have hc3 := s3 _ _ hc
      refine ⟨_, rfl, _, rfl, q1, _, _, _, rfl, rfl, .of (s3 _ _ hD1), atc, _, rfl, c, _, _, i, rfl, rfl, hc3, ix_ok rfl (by rw [List.length_map]; omega), ?_⟩
      have pls := pl_set i hc3 (hA.mono fun _ _ z => z.same s3) (show PR G3 p (low (v.1 * ff + (1) * v.2) (v.2 * ff)) from hp)
      have g13 := g1.same (sz.trans s3)
      have g23 := g2.same (sz.trans s3)
      exact nx _ q1 _ n (same_over (sG.trans (sz.trans s3)) nc0) (g13.inner oL.f hc3 cD pls ⟨by rw [List.length_set]; exact okl.1, ok_set (fun x hx => (okl.2 x hx).rr) (r6_add okv e12)⟩) (by omega) ((g23.other oS.f hc3 (.inl nc1)).base s02)
    case ty =>
      intro Dn σ G h
      obtain ⟨q1, q2, word, j, H2, H3, rfl, ha, hk, s02, s23, s3G, g1, g2, hn, hj, nq2, nx⟩ := h
      obtain ⟨nD, nb, cs, hD, lc, hcs⟩ := id g1
      obtain ⟨nD2, nb2, es, hE, le, hes⟩ := id g2
      obtain ⟨c, ec⟩ : ∃ c, cs[j]? = some c := ⟨_, List.getElem?_eq_getElem (by omega)⟩
      obtain ⟨e, ee⟩ : ∃ e, es[j]? = some e := ⟨_, List.getElem?_eq_getElem (by omega)⟩
      obtain ⟨cD, nc0, nc1, l, hl, okl⟩ := hcs c (List.mem_of_getElem? ec)
      obtain ⟨eD, ne0, ne1, m, hm, okm⟩ := hes e (List.mem_of_getElem? ee)
      have atc : atI (cs.map V.ref) ((j : Nat) : Int) = some (.ref c) := atI_nat (by rw [List.getElem?_map, ec]; rfl)
      have ate : atI (es.map V.ref) ((j : Nat) : Int) = some (.ref e) := atI_nat (by rw [List.getElem?_map, ee]; rfl)
      have sG := s02.trans (s23.trans s3G)
      have els : ∀ G', Same G G' → TSp a k ds n H Dn [some (.ref a), some (.int k), some (.ref q1), some (.ref q2), some (.int word), some (.int (j : Nat)), none, none, none] G' := fun G' s => ⟨q1, q2, word, j, H2, H3, rfl, ha, hk, s02, s23, s3G.trans s, g1.same s, g2.same s, hn, hj, nq2, nx⟩
      refine ⟨_, rfl, rfl, _, rfl, ite2 (fun w1 => ?_) (fun _ => iteF (els _ (.refl _)))⟩
      refine ⟨_, rfl, _, rfl, q2, _, _, _, rfl, rfl, .of hE, ate, by show 0 ≤ sizeLine; decide, fun z nz => ?_⟩
      have sz := same_upd nz (o := .lst [])
      have hz := upd_same (H := G) (a := z) (o := HO.lst [])
      generalize upd G z _ = G1 at sz hz
      refine ⟨dPL m, .list [], dp_pl (hm.same sz), .lst (.of hz) .nil, shaped_dPL _, rfl, _, rfl, ite2 (fun w2 => ?_) (fun _ => els _ sz)⟩
      have lpos : 0 < m.length := nil_eqv w2
      have hD1 := sz _ _ hE
      obtain ⟨as, hc, hA⟩ := hm.same sz
      have la := hA.len
      have ha1 := ha.same (sG.trans sz)
      refine ⟨_, rfl, _, rfl, _, _, rfl, rfl, _, rfl, _, rfl, q2, _, _, _, rfl, rfl, .of hD1, ate, e, _, rfl, .inl (.of hc), a, ds, _, _, rfl, ha1, by omega, by rw [List.length_map]; omega, fun r r0 r1 => ?_⟩
      rw [List.length_map] at r1
      obtain ⟨i, rfl⟩ : ∃ i : Nat, r = (i : Nat) := ⟨r.toNat, by omega⟩
      obtain ⟨x, ex⟩ : ∃ x, as[i]? = some x := ⟨_, List.getElem?_eq_getElem (by omega)⟩
      obtain ⟨v, ev, hv⟩ := hA.get ex
      have atx : atI (as.map V.ref) ((i : Nat) : Int) = some (.ref x) := atI_nat (by rw [List.getElem?_map, ex]; rfl)
      refine ⟨_, rfl, _, rfl, q2, _, _, _, rfl, rfl, .of hD1, ate, _, rfl, e, _, _, _, rfl, rfl, .of hc, atx, _, rfl, _, rfl, _, rfl, _, _, rfl, rfl, a, ds, _, 2, rfl, ha1, by omega, by decide, fun f f0 f1 => ?_⟩
      refine ⟨_, _, rfl, rfl, by show 2 ≤ sizeLine; decide, fun u nu => ?_⟩
      have su := same_upd nu (o := .tup [.int (-1), .int (1 + f)])
      have hu := upd_same (H := G1) (a := u) (o := HO.tup [.int (-1), .int (1 + f)])
      generalize upd G1 u _ = G2 at su hu
      have e12 : 1 + f = 1 ∨ 1 + f = 2 := by omega
      generalize 1 + f = ff at *
      have okv := okm.2 v (List.mem_of_getElem? ev)
      refine ⟨x, u, v.1, v.2, -1, ff, rfl, .of (su _ _ hv), .of hu, ⟨by have := okv.2.1; omega, by omega, Nat.lt_trans okv.1 (Nat.pow_lt_pow_right (by decide) (by decide)), Nat.lt_trans okv.2.2.1 (Nat.pow_lt_pow_right (by decide) (by decide)), by decide, by rcases e12 with rfl | rfl <;> decide⟩, fun p np => ?_⟩
      have sp := same_upd np (o := .tup [.int (low (v.1 * ff + (-1) * v.2) (v.2 * ff)).1, .int (low (v.1 * ff + (-1) * v.2) (v.2 * ff)).2])
      have hp := upd_same (H := G2) (a := p) (o := HO.tup [.int (low (v.1 * ff + (-1) * v.2) (v.2 * ff)).1, .int (low (v.1 * ff + (-1) * v.2) (v.2 * ff)).2])
      generalize upd G2 p _ = G3 at sp hp
      have s3 := su.trans sp
      have hc3 := s3 _ _ hc
      refine ⟨_, rfl, _, rfl, q2, _, _, _, rfl, rfl, .of (s3 _ _ hD1), ate, _, rfl, e, _, _, i, rfl, rfl, hc3, ix_ok rfl (by rw [List.length_map]; omega), ?_⟩
      have pls := pl_set i hc3 (hA.mono fun _ _ z => z.same s3) (show PR G3 p (low (v.1 * ff + (-1) * v.2) (v.2 * ff)) from hp)
      have g13 := g1.same (sz.trans s3)
      have g23 := g2.same (sz.trans s3)
      exact nx _ q1 _ n (same_over (sG.trans (sz.trans s3)) (s02.free ne0)) (g13.other oL.f hc3 (.inr ne0)) (by omega) ((g23.inner oS.f hc3 eD pls ⟨by rw [List.length_set]; exact okm.1, ok_set (fun x hx => (okm.2 x hx).w) (vok_add okv e12)⟩).base s02)
    case tz =>
      intro Dn σ G h
      obtain ⟨q1, q2, word, j, H2, H3, rfl, ha, hk, s02, s23, s3G, g1, g2, hn, hj, nq2, nx⟩ := h
      obtain ⟨nD, nb, cs, hD, lc, hcs⟩ := id g1
      obtain ⟨nD2, nb2, es, hE, le, hes⟩ := id g2
      obtain ⟨c, ec⟩ : ∃ c, cs[j]? = some c := ⟨_, List.getElem?_eq_getElem (by omega)⟩
      obtain ⟨e, ee⟩ : ∃ e, es[j]? = some e := ⟨_, List.getElem?_eq_getElem (by omega)⟩
      obtain ⟨cD, nc0, nc1, l, hl, okl⟩ := hcs c (List.mem_of_getElem? ec)
      obtain ⟨eD, ne0, ne1, m, hm, okm⟩ := hes e (List.mem_of_getElem? ee)
      have atc : atI (cs.map V.ref) ((j : Nat) : Int) = some (.ref c) := atI_nat (by rw [List.getElem?_map, ec]; rfl)
      have ate : atI (es.map V.ref) ((j : Nat) : Int) = some (.ref e) := atI_nat (by rw [List.getElem?_map, ee]; rfl)
      have sG := s02.trans (s23.trans s3G)
      refine ⟨_, rfl, rfl, _, rfl, ite2 (fun w1 => ?_) (fun _ => ?_)⟩
      · obtain ⟨as, hc, hA⟩ := hl
        obtain ⟨as', l', ecut, hA', ll', ml', _⟩ := cut_a2 none (some (-1)) hA
        refine ⟨_, rfl, _, rfl, q1, _, _, _, rfl, rfl, .of hD, atc, _, rfl, _, rfl, c, _, rfl, .of hc, fun z nz => ?_⟩
        rw [show cutV (as.map V.ref) none (some (-1)) = _ from ecut]
        have sz := same_upd nz (o := .lst (as'.map V.ref))
        have hz := upd_same (H := G) (a := z) (o := HO.lst (as'.map V.ref))
        generalize upd G z _ = G1 at sz hz
        have hD1 := sz _ _ hD
        refine ⟨_, rfl, _, rfl, q1, _, _, j, rfl, rfl, hD1, ix_ok rfl (by rw [List.length_map]; omega), ?_⟩
        exact nx _ q1 none n (same_over (sG.trans sz) nD) ((g1.same sz).outer oL.f hD1 (sG.free nz) (fun w => by rw [w, hD] at nz; cases nz) ⟨as', hz, hA'.mono fun _ _ y => y.same sz⟩ ⟨by have := okl.1; omega, fun v hv => (okl.2 v (ml' v hv)).rr⟩) (by omega) (((g2.same sz).other oS.f hD1 (.inl nb)).base s02)
      refine ⟨_, rfl, rfl, _, rfl, ite2 (fun w1 => ?_) (fun _ => ?_)⟩
      · obtain ⟨cs', _, ecut, _, _, _, mem⟩ := cut_a2 (some 1) none (a2_self cs)
        have ln : cs'.length ≤ n := by
          have := congrArg List.length ecut
          unfold cutV at this
          rw [List.length_take, List.length_drop, List.length_map, List.length_map] at this
          omega
        refine ⟨_, rfl, _, rfl, q1, _, rfl, .of hD, fun z nz => ?_⟩
        rw [show cutV (cs.map V.ref) (some 1) none = _ from ecut]
        have sz := same_upd nz (o := .lst (cs'.map V.ref))
        have hz := upd_same (H := G) (a := z) (o := HO.lst (cs'.map V.ref))
        generalize upd G z _ = G1 at sz hz
        exact nx _ z none cs'.length (sG.trans sz) (fin_of (sG.free nz) hz rfl fun y hy => let ⟨_, p, _, l2, t, u⟩ := hcs y (mem y hy); ⟨p, l2, t.same sz, oL.f _ u⟩) (by omega) (((g2.same sz).fin oS.f).base s02)
      obtain ⟨as, hc, hA⟩ := hm
      have la := hA.len
      refine ⟨_, rfl, _, rfl, q2, _, _, _, rfl, rfl, .of hE, ate, e, _, rfl, .inl (.of hc), _, _, rfl, rfl, _, rfl, ite2 (fun h => ?_) (fun _ => nx G q1 none n sG (g1.fin oL.f) (by omega) ((g2.fin oS.f).base s02))⟩
      have h := of_decide_eq_true h
      rw [List.length_map] at h
      refine ⟨_, rfl, _, rfl, q2, _, _, _, rfl, rfl, .of hE, ate, _, rfl, _, rfl, _, _, rfl, rfl, a, ds, _, 2, rfl, ha.same sG, by omega, by decide, fun r r0 r1 => ?_⟩
      refine ⟨by show 2 ≤ sizeLine; decide, fun u nu => ?_⟩
      have su := same_upd nu (o := .tup [.int r, .int 1])
      have hu := upd_same (H := G) (a := u) (o := HO.tup [.int r, .int 1])
      generalize upd G u _ = G1 at su hu
      refine ⟨by show 1 ≤ sizeLine; decide, fun z nz => ?_⟩
      have sz := same_upd nz (o := .lst [.ref u])
      have hz := upd_same (H := G1) (a := z) (o := HO.lst [.ref u])
      generalize upd G1 z _ = G2 at sz hz
      refine ⟨e, z, as.map V.ref, [.ref u], rfl, rfl, sz _ _ (su _ _ hc), hz, by rw [List.length_map]; show _ + 1 ≤ sizeLine; exact small (by omega), fun y ny => ?_⟩
      have sy := same_upd ny (o := .lst (as.map V.ref ++ [.ref u]))
      have hy := upd_same (H := G2) (a := y) (o := HO.lst (as.map V.ref ++ [.ref u]))
      generalize upd G2 y _ = G3 at sy hy
      have s3 := su.trans (sz.trans sy)
      have hE3 := s3 _ _ hE
      refine ⟨_, rfl, _, rfl, q2, _, _, j, rfl, rfl, hE3, ix_ok rfl (by rw [List.length_map]; omega), ?_⟩
      have yq : y ≠ q2 := fun w => by
        have := (su.trans sz) _ _ hE
        rw [← w, ny] at this
        cases this
      exact nx _ q1 none n (same_over (sG.trans s3) nq2) ((g1.same s3).other oL.f hE3 (.inr nD2)) (by omega) (((g2.same s3).outer oS.f hE3 ((s23.trans (s3G.trans (su.trans sz))).free ny) yq ⟨as ++ [u], by rw [List.map_append]; exact hy, A2.app (.cons (show PR G3 u (r, 1) from (sz.trans sy) _ _ hu) .nil) (hA.mono fun _ _ w => w.same s3)⟩ ⟨by rw [List.length_append]; show _ + 1 ≤ 12; omega, fun v hv => by
        rcases List.mem_append.mp hv with hv | hv
        · exact (okm.2 v hv).w
        · rw [List.mem_singleton.mp hv]
          refine ⟨Nat.lt_of_lt_of_le (show r.natAbs < 2 ^ 1 by show _ < 2; omega) (Nat.pow_le_pow_right (by decide) (by decide)), by show (0 : Int) < 1; decide, Nat.lt_of_lt_of_le (show (1 : Int).natAbs < 2 ^ 1 by decide) (Nat.pow_le_pow_right (by decide) (by decide)), QF.low_one r⟩⟩).base s02)
    obtain ⟨as, hb0, hA⟩ := hb
    obtain ⟨bs, hp0, hB⟩ := hp
    have la := hA.len
    have lb := hB.len
    refine ⟨_, rfl, b, rfl, ⟨_, .of hb0⟩, fun D1 nD1 => ?_⟩
    refine lc_inv (walk_list (K := K) (a := b) (xs := as.map V.ref)) (fun i G ys => ∃ cs : List Addr, ys = cs.map V.ref ∧ cs.length = i ∧ CS H G D1 cs oL) nD1 (fun G s => .of (s _ _ hb0)) (small' (by rw [List.length_map]; omega)) ⟨[], rfl, rfl, fun _ z => by cases z⟩ (fun i x G Gx ys hi sm hD hR y Qt Qf qt qf => ?_) (fun H2 ys s2 hD1 hR => ?_)
    · obtain ⟨rfl, hx⟩ := y
      obtain ⟨cs, rfl, lc, hC⟩ := hR
      obtain ⟨c, ec, rfl⟩ := ref_at hx
      obtain ⟨l, el, hl⟩ := hA.get ec
      obtain ⟨xs, hc, hX⟩ := hl
      refine ⟨rfl, _, rfl, c, _, rfl, .inl (.of (sm _ _ hc)), fun u nu => ?_⟩
      have su := same_upd nu (o := .lst (xs.map V.ref))
      refine qt _ _ su ⟨cs ++ [u], by rw [List.map_append]; rfl, by rw [List.length_append, lc]; rfl, hC.step su (su _ _ hD) (sm.free nu) (fun z => by rw [z, hD] at nu; cases nu) ⟨xs, upd_same, hX.mono fun _ _ z => z.same (sm.trans su)⟩ (okL l (List.mem_of_getElem? el))⟩
    obtain ⟨cs, rfl, lc, hC⟩ := hR
    have g1 := hC.gl nD1 hD1 (by rw [lc, List.length_map, la, lL])
    clear hC lc
    refine ⟨_, rfl, p, rfl, ⟨_, .of (s2 _ _ hp0)⟩, fun D2 nD2 => ?_⟩
    refine lc_inv (walk_list (K := K) (a := p) (xs := bs.map V.ref)) (fun i G ys => ∃ cs : List Addr, ys = cs.map V.ref ∧ cs.length = i ∧ CS H2 G D2 cs oS) nD2 (fun G s => .of (s _ _ (s2 _ _ hp0))) (small' (by rw [List.length_map]; omega)) ⟨[], rfl, rfl, fun _ z => by cases z⟩ (fun i x G Gx ys hi sm hD hR y Qt Qf qt qf => ?_) (fun H3 ys s3 hD2 hR => ?_)
    · obtain ⟨rfl, hx⟩ := y
      obtain ⟨cs, rfl, lc, hC⟩ := hR
      obtain ⟨c, ec, rfl⟩ := ref_at hx
      obtain ⟨l, el, hl⟩ := hB.get ec
      obtain ⟨xs, hc, hX⟩ := hl
      have s2m := s2.trans sm
      refine ⟨rfl, _, rfl, c, _, rfl, .inl (.of (s2m _ _ hc)), fun u nu => ?_⟩
      have su := same_upd nu (o := .lst (xs.map V.ref))
      refine qt _ _ su ⟨cs ++ [u], by rw [List.map_append]; rfl, by rw [List.length_append, lc]; rfl, hC.step su (su _ _ hD) (sm.free nu) (fun z => by rw [z, hD] at nu; cases nu) ⟨xs, upd_same, hX.mono fun _ _ z => z.same (s2m.trans su)⟩ (okS l (List.mem_of_getElem? el))⟩
    obtain ⟨cs2, rfl, lc, hC⟩ := hR
    have g2 := hC.gl nD2 hD2 (by rw [lc, List.length_map, lb, lS])
    clear hC lc
    have s23 := s2.trans s3
    refine ⟨_, rfl, _, rfl, a, ds, k, 6, rfl, ha.same s23, hk, by decide, fun word w0 w1 => ?_⟩
    refine ⟨_, rfl, by show 0 ≤ sizeLine; decide, fun z nz => ?_⟩
    have sz := same_upd nz (o := .lst [])
    have hz := upd_same (H := H3) (a := z) (o := HO.lst [])
    generalize upd H3 z _ = H4 at sz hz
    have g1' := (g1.same s3).same sz
    have g2' := g2.same sz
    have s4 := s23.trans sz
    obtain ⟨L1, pn1, ln1, ok1⟩ := id (g1'.fin oL.f)
    refine ⟨dLL L1, .list [], dp_ll pn1.ll, .lst (.of hz) .nil, shaped_dLL _, rfl, _, rfl, ?_⟩
    refine two ?_ (fun hT => ite2 (fun _ => iteT hT) (fun e => ⟨_, rfl, rfl, _, rfl, ite2 (fun _ => hT) (fun e2 => ?_)⟩))
    · refine ⟨_, rfl, by show 2 ≤ sizeLine; decide, fun z1 n1 => ?_⟩
      have t1 := same_upd n1 (o := .tup [.int 1, .int 1])
      have e1 := upd_same (H := H4) (a := z1) (o := HO.tup [.int 1, .int 1])
      generalize upd H4 z1 _ = J1 at t1 e1
      refine ⟨by show 1 ≤ sizeLine; decide, fun z2 n2 => ?_⟩
      have t2 := same_upd n2 (o := .lst [.ref z1])
      have e2 := upd_same (H := J1) (a := z2) (o := HO.lst [.ref z1])
      generalize upd J1 z2 _ = J2 at t2 e2
      refine ⟨by show 1 ≤ sizeLine; decide, fun z3 n3 => ?_⟩
      have t3 := same_upd n3 (o := .lst [.ref z2])
      have e3 := upd_same (H := J2) (a := z3) (o := HO.lst [.ref z2])
      generalize upd J2 z3 _ = J3 at t3 e3
      have t13 := t1.trans (t2.trans t3)
      obtain ⟨nD, _, cs, hD, lc, hcs⟩ := g1'.same t13
      refine ⟨D1, z3, cs.map V.ref, [.ref z2], rfl, rfl, hD, e3, by rw [List.length_map]; show _ + 1 ≤ sizeLine; exact small (by omega), fun z4 n4 => ?_⟩
      have t4 := same_upd n4 (o := .lst (cs.map V.ref ++ [.ref z2]))
      have e4 := upd_same (H := J3) (a := z4) (o := HO.lst (cs.map V.ref ++ [.ref z2]))
      generalize upd J3 z4 _ = J4 at t4 e4
      refine ⟨_, rfl, by show 2 ≤ sizeLine; decide, fun z5 n5 => ?_⟩
      have t5 := same_upd n5 (o := .tup [.ref z4, .ref D2])
      have e5 := upd_same (H := J4) (a := z5) (o := HO.tup [.ref z4, .ref D2])
      generalize upd J4 z5 _ = J5 at t5 e5
      have k5 := s4.trans (t13.trans (t4.trans t5))
      refine q J5 z5 z4 D2 (n + 1) k5 e5 (fin_of (cs := cs ++ [z2]) ((s4.trans t13).free n4) (by rw [List.map_append]; exact t5 _ _ e4) (by rw [List.length_append, lc]; rfl) fun c hc => ?_) (by omega) (((g2'.fin oS.f).base s2).same (t13.trans (t4.trans t5)))
      rcases List.mem_append.mp hc with hc | hc
      · obtain ⟨_, nc, _, l, hl, ol⟩ := hcs c hc
        exact ⟨nc, l, hl.same (t4.trans t5), ol.f⟩
      · obtain rfl := List.mem_singleton.mp hc
        refine ⟨(s4.trans t1).free n2, [(1, 1)], ⟨[z1], (t3.trans (t4.trans t5)) _ _ e2, .cons ((t2.trans (t3.trans (t4.trans t5))) _ _ e1) .nil⟩, by show 1 ≤ 12; decide, fun v hv => ?_⟩
        obtain rfl := List.mem_singleton.mp hv
        exact ⟨by decide, by decide, by decide⟩
    · have n0 : 0 < n := by
        rcases Nat.eq_zero_or_pos n with z0 | z0
        · have : L1 = [] := List.eq_nil_of_length_eq_zero (by omega)
          rw [this] at e
          exact absurd e (by decide)
        · exact z0
      obtain ⟨nD, _, cs, hD, lc, hcs⟩ := id g1'
      refine ⟨_, rfl, _, rfl, _, _, rfl, rfl, .ref D1, rfl, D1, _, rfl, .inl (.of hD), a, ds, _, _, rfl, ha.same s4, by omega, by rw [List.length_map]; omega, fun r r0 r1 => ?_⟩
      rw [List.length_map] at r1
      obtain ⟨j, rfl⟩ : ∃ j : Nat, r = (j : Nat) := ⟨r.toNat, by omega⟩
      refine ⟨D1, D2, word, j, H2, H3, rfl, ha, hk, s2, s3, sz, g1', g2', hn, by omega, s2.free nD2, fun G' q1' v6 n' sG f1 hn' f2 => ?_⟩
      exact ⟨_, rfl, _, rfl, by show 2 ≤ sizeLine; decide, fun t nt => q _ t q1' D2 n' (sG.trans (same_upd nt)) upd_same (f1.same (same_upd nt)) hn' (f2.same (same_upd nt))⟩
end
end K70
-- L70
set_option exponentiation.threshold 3000

namespace K70
open PySem PySem.Spec PyProof.Rows L2
open QF (low sg gc)
/-! ### the law -/
theorem TGs.upd {Ps : List Addr} {H : Hp} {g : Addr} {xs : List V} {o : HO} (h : TGs Ps H) (hg : H g = some (.lst xs)) : TGs Ps (upd H g o) := fun P hP => by
  obtain ⟨ps, e, t⟩ := h P hP
  exact ⟨ps, by rw [upd_ne (fun z => by rw [z, hg] at e; cases e)]; exact e, t⟩
abbrev SV (a d : Addr) (many : Nat) (g : Addr) (v4 v5 v6 v7 v8 v9 v10 v11 v12 v13 v14 v15 : Option V) : L2.St := [some (.ref a), some (.ref d), some (.int (many : Nat)), some (.ref g), v4, v5, v6, v7, v8, v9, v10, v11, v12, v13, v14, v15, none, none]
def oZ (z : Nat) (l : List Fr) : Prop := l.length = z ∧ ∀ v ∈ l, R6 v
def TV1 (K : PySem.W.Frag) (Ps : List Addr) (a : Addr) : TS := fun Dn σ G => ∃ (d g : Addr) (ds : List Int) (many : Nat) (rs : List Rw), σ = SV a d many g none none none none none none none none none none none none ∧ IL G d ds ∧ d ≠ g ∧ many ≤ 16 ∧ GX K G g rs ∧ EG rs ∧ rs.length = many ∧ TGs Ps G ∧
  ∀ G' rs' v4, IL G' d ds → GR K G' g rs' → EG rs' → rs'.length = many → TGs Ps G' → Dn.nx (SV a d many g v4 none none none none none none none none none none none) G'
def TV2 (a : Addr) : TS := fun Dn σ G => ∃ (d g b : Addr) (ds : List Int) (many size : Nat) (L : List (List Fr)) (v4 : Option V), σ = SV a d many g v4 (some (.int (size : Nat))) (some (.ref b)) none none none none none none none none none ∧ IL G d ds ∧ LL G b L ∧ L.length = many ∧ many ≤ 16 ∧ (∀ l ∈ L, oZ size l) ∧ size ≤ 12 ∧
  ∀ G' b' L' v7, Same G G' → LL G' b' L' → L'.length = many → (∀ l ∈ L', oZ size l) → Dn.nx (SV a d many g v4 (some (.int (size : Nat))) (some (.ref b')) v7 none none none none none none none none) G'
def TV3 (a : Addr) : TS := fun Dn σ G => ∃ (d g p : Addr) (ds : List Int) (many : Nat) (S : List (List Fr)) (v4 v5 v6 v7 : Option V), σ = SV a d many g v4 v5 v6 v7 none (some (.ref p)) none none none none none none ∧ IL G d ds ∧ LL G p S ∧ S.length = many ∧ many ≤ 16 ∧ (∀ l ∈ S, oS l) ∧
  ∀ G' p' S', Same G G' → LL G' p' S' → S'.length = many → (∀ l ∈ S', oS l) → Dn.nx (SV a d many g v4 v5 v6 v7 none (some (.ref p')) none none none none none none) G'
theorem gd_fr {v : Fr} (h1 : v.1.natAbs < 10 ^ 500) (h2 : v.2.natAbs < 10 ^ 500) : Gd 1 1010 (dP v) := (Gd.tup (.cons (Gd.intB h1) (.cons (Gd.intB h2) .nil))).mono (Nat.le_refl _) (by decide)
theorem gd_LL {L : List (List Fr)} (hl : L.length ≤ 17) (h : ∀ l ∈ L, l.length ≤ 12 ∧ ∀ v ∈ l, v.1.natAbs < 10 ^ 500 ∧ v.2.natAbs < 10 ^ 500) : Gd 3 210000 (dLL L) := by
  have h1 : ∀ l ∈ L, Gd 2 12200 (dPL l) := fun l hl2 => (Gd.list (GdAll.map (n := 1010) fun v hv => gd_fr ((h l hl2).2 v hv).1 ((h l hl2).2 v hv).2)).mono (Nat.le_refl _) (by have := (h l hl2).1; omega)
  exact (Gd.list (GdAll.map h1)).mono (Nat.le_refl _) (by omega)
theorem gd_gr {rs : List Rw} (eg : EG rs) : Gd 4 60000 (dGr rs) := by
  have h1 : ∀ r ∈ rs, ∀ e ∈ r.2, Gd 1 190 (dI e) := fun r hr e he => (Gd.list (GdAll.map (n := 44) fun v hv => Gd.int (Nat.le_trans (((eg.wid r hr).2 e he).2 v hv) (by decide)))).mono (Nat.le_refl _) (by have := ((eg.wid r hr).2 e he).1; omega)
  have h2 : ∀ r ∈ rs, Gd 3 3300 (dRow r) := fun r hr => (Gd.tup (.cons ((Gd.str (gs_kS r.1)).mono (by decide) (Nat.le_refl _)) (.cons (Gd.list (GdAll.map (h1 r hr))) .nil))).mono (Nat.le_refl _) (by have := (eg.wid r hr).1; have := eg.many; omega)
  exact (Gd.list (GdAll.map h2)).mono (Nat.le_refl _) (by have := eg.many; omega)
theorem fS.b {S : List (List Fr)} (h : ∀ l ∈ S, fS l) : ∀ l ∈ S, l.length ≤ 12 ∧ ∀ v ∈ l, v.1.natAbs < 10 ^ 500 ∧ v.2.natAbs < 10 ^ 500 := fun l hl => ⟨(h l hl).1, fun v hv => ⟨Nat.lt_of_lt_of_le ((h l hl).2 v hv).1 (by decide +kernel), Nat.lt_of_lt_of_le ((h l hl).2 v hv).2.2.1 (by decide +kernel)⟩⟩
theorem fL.b {L : List (List Fr)} (h : ∀ l ∈ L, fL l) : ∀ l ∈ L, l.length ≤ 12 ∧ ∀ v ∈ l, v.1.natAbs < 10 ^ 500 ∧ v.2.natAbs < 10 ^ 500 := fun l hl => ⟨(h l hl).1, fun v hv => ⟨Nat.lt_of_le_of_lt ((h l hl).2 v hv).1 (by decide +kernel), Nat.lt_of_le_of_lt ((h l hl).2 v hv).2.2 (by decide +kernel)⟩⟩
theorem gd_all {rs : List Rw} {S L : List (List Fr)} (eg : EG rs) (lS : S.length ≤ 17) (lL : L.length ≤ 17) (hS : ∀ l ∈ S, fS l) (hL : ∀ l ∈ L, fL l) : Gd 5 1000000 (.tuple [dGr rs, dLL S, dLL L]) :=
  (Gd.tup (.cons (gd_gr eg) (.cons ((gd_LL lS (fS.b hS)).mono (by decide) (Nat.le_refl _)) (.cons ((gd_LL lL (fL.b hL)).mono (by decide) (Nat.le_refl _)) .nil)))).mono (Nat.le_refl _) (by decide)
theorem vw_zero {v : Fr} (h : Vw v) (e : v.1 = 0) : v = (0, 1) := by
  have h4 := h.2.2.2
  rw [e] at h4
  rw [← h4]
  have h5 := congrArg Prod.snd h4
  obtain ⟨_, _, _, h2, _, gc⟩ := QF.low_is (n := 0) (d := v.2) (by have := h.2.1; omega)
  have e1 : (low 0 v.2).1 = 0 := by rw [h4]; exact e
  rw [e1, h4] at gc
  rw [h4]
  have : v.2.natAbs = 1 := by simpa using gc
  exact Prod.ext e (by show v.2 = 1; have := h.2.1; omega)
def PrD (D : Addr) (n : Nat) (G : Hp) (v : V) : Prop := ∃ (t q1 q2 : Addr) (L S : List (List Fr)), v = .ref t ∧ (∀ l ∈ L, fL l) ∧ L.length ≤ 17 ∧ (∀ l ∈ S, fS l) ∧ S.length = n ∧ ∀ G', SameX D G G' → G' t = some (.tup [.ref q1, .ref q2]) ∧ LL G' q1 L ∧ LL G' q2 S
theorem PrD.mono {D : Addr} {n : Nat} {G G' : Hp} {v : V} (s : SameX D G G') (h : PrD D n G v) : PrD D n G' v := let ⟨t, q1, q2, L, S, a, b, c, d, e, f⟩ := h; ⟨t, q1, q2, L, S, a, b, c, d, e, fun G2 s2 => f G2 (s.trans s2)⟩
theorem PNN.sx {D q : Addr} {H0 H G : Hp} {L : List (List Fr)} {ys zs : List V} (h : PNN H0 H q L) (h0 : H0 D = some (.lst ys)) (hD : H D = some (.lst zs)) (s : SameX D H G) : LL G q L := by
  obtain ⟨a, cs, b, c⟩ := h
  have ne : ∀ x, H0 x = none → x ≠ D := fun x z w => by rw [w, h0] at z; cases z
  refine ⟨cs, s _ _ (ne _ a) b, c.mono fun x l z => ?_⟩
  obtain ⟨n, as, e, hA⟩ := z
  refine ⟨as, s _ _ (ne _ n) e, hA.mono fun y r w => ?_⟩
  have w : H y = _ := w
  exact s _ _ (fun z => by rw [z, hD] at w; cases w) w
section
variable {P : Program} {w : World} {K : PySem.W.Frag} {mg : Str → Option Value} {base : Heap} {Ps : List Addr}
def sp_law (K : PySem.W.Frag) (P1 P2 : Addr) : Sp := fun vs H Q _ => ∃ (a : Addr) (ns : List Int), vs = [.ref a] ∧ SqL K H a (ns.map V.int) ∧ ns.length ≤ 63 ∧ GxR.TabG H P1 ∧ GxR.TabG H P2 ∧ ∀ H', Q (.bl true) H'
theorem ok_law (T : Txt K mg) (X : Errs K mg) {P1 P2 : Addr} (B1 : GxR.TabB base mg T.keeps_row.c P1) (B2 : GxR.TabB base mg T.keeps.c P2) : LG.FnG P w K mg base CX0 8 T.law.a T.law.fd ["script"] (sp_law K P1 P2) := by
  let Ps : List Addr := [P1, P2]
  let TB : Tbs base T Ps := ⟨P1, P2, B1, B2, by simp [Ps], by simp [Ps]⟩
  refine LG.fun_okG T.law.F sc_law (fun vs H Q E h => ?_) (fun cdv A outer s H vs Q E hr gd h => ?_)
  · obtain ⟨a, ns, rfl, _⟩ := h
    rfl
  · obtain ⟨a, ns, rfl, ha, hl, t1, t2, fin⟩ := h
    have tg : TGs Ps H := fun P hP => by
      rcases List.mem_cons.mp hP with rfl | hP
      · exact t1
      · rw [List.mem_singleton.mp hP]; exact t2
    refine ⟨_, (pss_cons (ps_set (i := 1) sc_law.nd rfl (.inr rfl) (pe_call (ok_law_draws T) (hr.mono (by decide)) (by rfl) T.law_draws.g T.law_draws.F.kp T.law_draws.b .nil pass0 (pa_cons (pv 0) pa_nil)))
      (pss_cons (ps_set (i := 2) sc_law.nd rfl (.inl rfl) (pe_call (ok_law_mix T) (hr.mono (by decide)) (by rfl) T.law_mix.g T.law_mix.F.kp T.law_mix.b .nil pass0 (pa_cons (pv 1) (pa_cons pe_int (pa_cons (pe_ix ix_list (pe_lst (pa_cons pe_int (pa_cons pe_int pa_nil))) (pe_callTy call_int1 (by rfl) T.m_int (by decide +kernel) (pa_cons (pe_cmpR op_eq (pe_call (ok_law_mix T) (hr.mono (by decide)) (by rfl) T.law_mix.g T.law_mix.F.kp T.law_mix.b .nil pass0 (pa_cons (pv 1) (pa_cons pe_int (pa_cons pe_int pa_nil)))) pe_int (nomark _)) pa_nil)) (fun _ _ => rfl)) pa_nil)))))
      (pss_cons (ps_set (i := 3) sc_law.nd rfl (.inl rfl) (pe_call (ok_law_exact_grid T) (hr.mono (by decide)) (by rfl) T.law_exact_grid.g T.law_exact_grid.F.kp T.law_exact_grid.b .nil pass0 (pa_cons (pv 1) (pa_cons pe_int (pa_cons (pv 2) pa_nil)))))
      (pss_cons (ps_via (t' := TV1 K Ps a) (ps_if (PW.pt (pw_and (pt_cmpR op_gt (pv 2) pe_int (nomark _)) (pw_and1 (pt_cmpR op_eq (pe_call (ok_law_mix T) (hr.mono (by decide)) (by rfl) T.law_mix.g T.law_mix.F.kp T.law_mix.b .nil pass0 (pa_cons (pv 1) (pa_cons pe_int (pa_cons pe_int pa_nil)))) pe_int (nomark _)))))
        (pss_cons (ps_set (i := 4) sc_law.nd rfl (.inl rfl) (pe_call (ok_law_mix T) (hr.mono (by decide)) (by rfl) T.law_mix.g T.law_mix.F.kp T.law_mix.b .nil pass0 (pa_cons (pv 1) (pa_cons pe_int (pa_cons (pv 2) pa_nil)))))
        (pss_one (ps_asg (pe_tup (pa_cons pe_str (pa_cons (pe_lc (own := [("j", 16)]) rfl sc_law.nd (pi_range1 (by rfl) T.m_range (pa_cons (pv 2) pa_nil)) (blkOk_by (N := ["script", "draws", "many", "grid", "at", "size", "lists", "cut", "values", "sources", "pairs", "turn", "given", "due", "kept", "told", "j", "source"]) (sc := defScope s_law) (by decide +kernel)) (fun _ _ _ _ _ => (pg_name (i := 16) sc_law.nd rfl (.inl rfl))) (fun _ _ _ _ _ => pts_nil) (fun _ _ _ _ _ => (pe_lst pa_nil))) pa_nil))) (pg_sub (pv 3) (pv 4) set_list))))
        pss_nil) ?v1)
      (pss_cons (ps_set (i := 5) sc_law.nd rfl (.inr rfl) (pe_call (ok_law_mix T) (hr.mono (by decide)) (by rfl) T.law_mix.g T.law_mix.F.kp T.law_mix.b .nil pass0 (pa_cons (pv 1) (pa_cons pe_int (pa_cons pe_int pa_nil)))))
      (pss_cons (ps_setLc (i := 6) (own := [("j", 16)]) rfl sc_law.nd rfl rfl (sw_true rfl rfl rfl (by decide +kernel)) (pi_range1 (by rfl) T.m_range (pa_cons (pv 2) pa_nil)) (blkOk_by (N := ["script", "draws", "many", "grid", "at", "size", "lists", "cut", "values", "sources", "pairs", "turn", "given", "due", "kept", "told", "j", "source"]) (sc := defScope s_law) (by decide +kernel)) (fun _ _ _ _ _ => (pg_name (i := 16) sc_law.nd rfl (.inr rfl))) (fun _ _ _ _ _ => pts_nil) (fun _ _ _ _ _ => (pe_lc (own := [("at", 4)]) rfl sc_law.nd (pi_range1 (by rfl) T.m_range (pa_cons (pv 5) pa_nil)) (blkOk_by (N := ["script", "draws", "many", "grid", "at", "size", "lists", "cut", "values", "sources", "pairs", "turn", "given", "due", "kept", "told", "j", "source"]) (sc := { kind := .function, names := [(".0", .local), ("j", .cell), ("range", .globalImplicit), ("draws", .cell), ("size", .cell)], isGenerator := false, isCoroutine := false, more := [] }) (by decide +kernel)) (fun _ _ _ _ _ => (pg_name (i := 4) sc_law.nd rfl (.inl rfl))) (fun _ _ _ _ _ => pts_nil) (fun _ _ _ _ _ => (pe_call (ok_law_drawn_ratio T) (hr.mono (by decide)) (by rfl) T.law_drawn_ratio.g T.law_drawn_ratio.F.kp T.law_drawn_ratio.b .nil pass0 (pa_cons (pv 1) (pa_cons (pe_op op_add (pe_op op_add pe_int (pe_op op_mul pe_int (pv 16))) (pe_op op_mul pe_int (pv 4))) pa_nil)))))))
      (pss_cons (ps_via (t' := TV2 a) (ps_if (pt_cmpR op_eq (pe_call (ok_law_mix T) (hr.mono (by decide)) (by rfl) T.law_mix.g T.law_mix.F.kp T.law_mix.b .nil pass0 (pa_cons (pv 1) (pa_cons pe_int (pa_cons pe_int pa_nil)))) pe_int (nomark _))
        (pss_cons (ps_set (i := 7) sc_law.nd rfl (.inr rfl) (pe_call (ok_law_mix T) (hr.mono (by decide)) (by rfl) T.law_mix.g T.law_mix.F.kp T.law_mix.b .nil pass0 (pa_cons (pv 1) (pa_cons pe_int (pa_cons (pe_op op_add (pv 5) pe_int) pa_nil)))))
        (pss_one (ps_setLc (i := 6) (own := [("values", 8)]) rfl sc_law.nd rfl rfl (sw_true rfl rfl rfl (by decide +kernel)) (pi_list (pv 6)) (blkOk_by (N := ["script", "draws", "many", "grid", "at", "size", "lists", "cut", "values", "sources", "pairs", "turn", "given", "due", "kept", "told", "j", "source"]) (sc := defScope s_law) (by decide +kernel)) (fun _ _ _ _ _ => (pg_name (i := 8) sc_law.nd rfl (.inl rfl))) (fun _ _ _ _ _ => pts_nil) (fun _ _ _ _ _ => (pe_op op_cat (pe_slice (r := rSlL K) sl_list (pv 8) po_none (po_some (pv 7))) (pe_op op_rep (pe_lst (pa_cons (pe_tup (pa_cons pe_int (pa_cons pe_int pa_nil))) pa_nil)) (pe_op op_sub (pv 5) (pv 7))))))))
        pss_nil) ?v2)
      (pss_cons (ps_set (i := 9) sc_law.nd rfl (.inl rfl) (pe_call (ok_law_fitting T) (hr.mono (by decide)) (by rfl) T.law_fitting.g T.law_fitting.F.kp T.law_fitting.b .nil pass0 (pa_cons (pv 3) (pa_cons (pv 6) pa_nil))))
      (pss_cons (ps_via (t' := TV3 a) (ps_if (pt_cmpR op_eq (pe_call (ok_law_mix T) (hr.mono (by decide)) (by rfl) T.law_mix.g T.law_mix.F.kp T.law_mix.b .nil pass0 (pa_cons (pv 1) (pa_cons pe_int (pa_cons pe_int pa_nil)))) pe_int (nomark _))
        (pss_one (ps_setLc (i := 9) (own := [("source", 17)]) rfl sc_law.nd rfl rfl (sw_true rfl rfl rfl (by decide +kernel)) (pi_list (pv 9)) (blkOk_by (N := ["script", "draws", "many", "grid", "at", "size", "lists", "cut", "values", "sources", "pairs", "turn", "given", "due", "kept", "told", "j", "source"]) (sc := defScope s_law) (by decide +kernel)) (fun _ _ _ _ _ => (pg_name (i := 17) sc_law.nd rfl (.inl rfl))) (fun _ _ _ _ _ => pts_nil) (fun _ _ _ _ _ => (pe_call (ok_law_cut T) (hr.mono (by decide)) (by rfl) T.law_cut.g T.law_cut.F.kp T.law_cut.b .nil pass0 (pa_cons (pv 17) pa_nil)))))
        pss_nil) ?v3)
      (pss_cons (ps_via (t' := TV3 a) (ps_if (pt_cmpR op_eq (pe_call (ok_law_mix T) (hr.mono (by decide)) (by rfl) T.law_mix.g T.law_mix.F.kp T.law_mix.b .nil pass0 (pa_cons (pv 1) (pa_cons pe_int (pa_cons pe_int pa_nil)))) pe_int (nomark _))
        (pss_one (ps_set (i := 9) sc_law.nd rfl (.inl rfl) (pe_call (ok_law_sources T) (hr.mono (by decide)) (by rfl) T.law_sources.g T.law_sources.F.kp T.law_sources.b .nil pass0 (pa_cons (pv 1) (pa_cons pe_int (pa_cons (pv 2) pa_nil))))))
        pss_nil) ?v4)
      (pss_cons (ps_set (i := 10) sc_law.nd rfl (.inl rfl) (pe_lst (pa_cons (pe_tup (pa_cons (pv 6) (pa_cons (pv 9) pa_nil))) pa_nil)))
      (pss_cons (ps_for PassesOwn.never rfl (pi_range1 (by rfl) T.m_range (pa_cons pe_int pa_nil)) (pg_name (i := 11) sc_law.nd rfl (.inl rfl))
        (pss_one (ps_expr (pe_bm PySem.F.plainAttrs_list PySem.F.slot_list_append PySem.F.type_list_append mt_append (pv 10) (pa_cons (pe_call (ok_law_spoilt T) (hr.mono (by decide)) (by rfl) T.law_spoilt.g T.law_spoilt.F.kp T.law_spoilt.b .nil pass0 (pa_cons (pv 1) (pa_cons (pe_op op_add pe_int (pe_op op_mul pe_int (pv 11))) (pa_cons (pv 6) (pa_cons (pv 9) pa_nil))))) pa_nil)))))
      (pss_cons (ps_for PassesOwn.never rfl (pi_list (pv 10)) (pg_tup rfl (pgs_cons (pg_name (i := 8) sc_law.nd rfl (.inl rfl)) (pgs_cons (pg_name (i := 12) sc_law.nd rfl (.inl rfl)) pgs_nil)))
        (pss_cons (ps_set (i := 13) sc_law.nd rfl (.inl rfl) (pe_call (ok_law_keeps T) (hr.mono (by decide)) (by rfl) T.law_keeps.g T.law_keeps.F.kp T.law_keeps.b .nil pass0 (pa_cons (pv 3) (pa_cons (pv 12) (pa_cons (pv 8) pa_nil)))))
        (pss_cons (ps_set (i := 14) sc_law.nd rfl (.inl rfl) (pe_callB (LG.call_reprD gd hr.units) (by rfl) T.m_repr (by decide +kernel) (pa_cons (pe_tup (pa_cons (pv 3) (pa_cons (pv 12) (pa_cons (pv 8) pa_nil)))) pa_nil)))
        (pss_cons (ps_set (i := 15) sc_law.nd rfl (.inl rfl) (pe_call (ok_keeps T X TB) (hr.mono (by decide)) (by rfl) T.keeps.g T.keeps.kp T.keeps.b .nil (passes_call takes0 fun _ _ _ _ h => h) (pa_cons (pv 3) (pa_cons (pv 12) (pa_cons (pv 8) pa_nil)))))
        (pss_one (ps_if (PW.pt (pw_or (pt_not (pt_val (pe_callB call_isi (by rfl) T.m_isinstance (by decide +kernel) (pa_cons (pv 15) (pa_cons (pe_bltn (v := .ty "bool") (by rfl) T.m_bool (by decide +kernel) rfl) pa_nil))))) (pw_or (pt_cmpR op_ne (pv 15) (pv 13) (nomark _)) (pw_or1 (pt_cmpR op_ne (pe_callB (LG.call_reprD gd hr.units) (by rfl) T.m_repr (by decide +kernel) (pa_cons (pe_tup (pa_cons (pv 3) (pa_cons (pv 12) (pa_cons (pv 8) pa_nil)))) pa_nil)) (pv 14) (nomark _))))))
          (pss_one (ps_ret pe_bl))
          pss_nil))))))
      (pss_one (ps_ret (pe_call (ok_law_bad T X TB) (hr.mono (by decide)) (by rfl) T.law_bad.g T.law_bad.F.kp T.law_bad.b .nil pass0 (pa_cons (pv 1) (pa_cons (pv 3) (pa_cons (pv 9) (pa_cons (pv 6) pa_nil)))))))))))))))))))), ?_⟩
    case v1 =>
      intro Dn σ G h
      obtain ⟨d, g, ds, many, rs, rfl, hd, dg, hm, hg, eg, lr, tg, nx⟩ := h
      have stay := nx G rs none hd hg.gr eg lr tg
      refine ⟨_, rfl, _, _, rfl, rfl, _, rfl, ite2 (fun h => ?_) (fun h => iteF stay)⟩
      have h := of_decide_eq_true h
      refine ⟨.ref d, rfl, d, ds, 1, 3, rfl, hd, by decide, by decide, fun r r0 r1 => ⟨rfl, _, rfl, ite2 (fun _ => ?_) (fun _ => stay)⟩⟩
      refine ⟨_, rfl, _, rfl, d, ds, 2, _, rfl, hd, by decide, by omega, fun z z0 z1 => ?_⟩
      obtain ⟨j, rfl⟩ : ∃ m : Nat, z = (m : Nat) := ⟨z.toNat, by omega⟩
      refine ⟨_, rfl, (many : Nat), rfl, by omega, by omega, fun C nC => ?_⟩
      rw [Int.toNat_natCast]
      refine lc_inv (walk_range (lo := 0) (n := many)) (fun i G1 ys => ∃ (as : List Addr), ys = as.map V.ref ∧ RN C G G1 as (List.replicate i [])) nC (fun _ _ => trivial) (small' (by omega)) ⟨[], rfl, .nil⟩ (fun i x G1 Hx ys hi sm hC hR y Qt Qf qt qf => ?_) (fun G1 ys sm hC hR => ?_)
      · obtain ⟨rfl, rfl⟩ := y
        obtain ⟨as, rfl, hrn⟩ := hR
        refine ⟨rfl, by show 0 ≤ sizeLine; decide, fun u nu => ?_⟩
        have su := same_upd nu (o := .lst [])
        have uC : u ≠ C := fun z => by rw [z, hC] at nu; cases nu
        refine qt _ _ su ⟨as ++ [u], by rw [List.map_append]; rfl, ?_⟩
        rw [List.replicate_succ']
        exact hrn.snoc su uC (sm.free nu) upd_same
      obtain ⟨as, rfl, hrn⟩ := hR
      refine ⟨by show 2 ≤ sizeLine; decide, fun t nt => ?_⟩
      have st := same_upd nt (o := .tup [.str "exact", .ref C])
      have ht := upd_same (H := G1) (a := t) (o := HO.tup [.str "exact", .ref C])
      generalize upd G1 t _ = G2 at st ht
      have s2 := sm.trans st
      obtain ⟨xs, hgx, hA⟩ := hg
      have lx := hA.len
      have hg2 := s2 _ _ hgx
      refine ⟨_, rfl, _, rfl, g, xs, _, j, rfl, rfl, hg2, ix_ok rfl (by omega), ?_⟩
      have nw : ∀ c, G c = none → c ≠ g := fun c z w => by rw [w, hgx] at z; cases z
      have rx : RX K g G2 (.ref t) (true, List.replicate many []) := fun H' s => ⟨t, C, rfl, .of (s _ _ (nw _ (sm.free nt)) ht), as, s _ _ (nw _ nC) (st _ _ hC), hrn.mono fun a r z => s _ _ (nw _ z.1.2) (st _ _ z.2)⟩
      have eg2 : EG (rs.set j (true, List.replicate many [])) := ⟨by rw [List.length_set]; exact eg.many, fun r hr => by
        rcases List.mem_or_eq_of_mem_set hr with hr | rfl
        · exact eg.ex r hr
        · rfl, fun r hr => by
        rw [List.length_set]
        rcases List.mem_or_eq_of_mem_set hr with hr | rfl
        · exact eg.wid r hr
        · exact ⟨by show (List.replicate many _).length = _; rw [List.length_replicate, lr], fun e he => by
            rw [List.eq_of_mem_replicate he]
            exact ⟨by decide, fun _ z => by cases z⟩⟩⟩
      exact nx _ _ _ (show upd G2 g _ d = _ from (upd_ne dg).trans (s2 _ _ hd)) ⟨_, upd_same, (a2_set rx j (hA.mono fun _ _ z => z.mono (sx s2))).mono fun _ _ z => z _ SameX.put⟩ eg2 (by rw [List.length_set, lr]) ((tg.same s2).upd hg2)
    case v2 =>
      intro Dn σ G h
      obtain ⟨d, g, b, ds, many, size, L, v4, rfl, hd, hb, lL, hm, okL, hs, nx⟩ := h
      refine ⟨.ref d, rfl, d, ds, 2901, 3, rfl, hd, by decide, by decide, fun r r0 r1 => ⟨rfl, _, rfl, ite2 (fun _ => ?_) (fun _ => nx G b L none (.refl _) hb lL okL)⟩⟩
      refine ⟨.ref d, rfl, _, rfl, _, _, rfl, rfl, d, ds, 2902, _, rfl, hd, by decide, by omega, fun z z0 z1 => ?_⟩
      obtain ⟨cut, rfl⟩ : ∃ m : Nat, z = (m : Nat) := ⟨z.toNat, by omega⟩
      obtain ⟨as, hb0, hA⟩ := hb
      have la := hA.len
      refine ⟨_, rfl, b, rfl, ⟨_, .of hb0⟩, fun D nD => ?_⟩
      refine lc_inv (walk_list (K := K) (a := b) (xs := as.map V.ref)) (fun i G1 ys => ∃ cs : List Addr, ys = cs.map V.ref ∧ cs.length = i ∧ CS G G1 D cs (oZ size)) nD (fun G s => .of (s _ _ hb0)) (small' (by rw [List.length_map]; omega)) ⟨[], rfl, rfl, fun _ z => by cases z⟩ (fun i x G1 Gx ys hi sm hD hR y Qt Qf qt qf => ?_) (fun H2 ys s2 hD1 hR => ?_)
      · obtain ⟨rfl, hx⟩ := y
        obtain ⟨cs, rfl, lc, hC⟩ := hR
        obtain ⟨c, ec, rfl⟩ := ref_at hx
        obtain ⟨l, el, hl⟩ := hA.get ec
        obtain ⟨xs, hc, hX⟩ := hl
        have okl := okL l (List.mem_of_getElem? el)
        have lxs := hX.len
        obtain ⟨rest, er⟩ : ∃ m : Nat, ((size : Nat) : Int) - ((cut : Nat) : Int) = (m : Nat) := ⟨size - cut, by omega⟩
        refine ⟨rfl, _, rfl, _, rfl, _, rfl, c, _, rfl, .of (sm _ _ hc), fun z1 n1 => ?_⟩
        have s1 := same_upd n1 (o := .lst (cutV (xs.map V.ref) none (some ((cut : Nat) : Int))))
        have h1 := upd_same (H := Gx) (a := z1) (o := HO.lst (cutV (xs.map V.ref) none (some ((cut : Nat) : Int))))
        generalize upd Gx z1 _ = J1 at s1 h1
        rw [cutT rfl, ← List.map_take] at h1
        refine ⟨by show 2 ≤ sizeLine; decide, fun u nu => ?_⟩
        have su := same_upd nu (o := .tup [.int 0, .int 1])
        have hu := upd_same (H := J1) (a := u) (o := HO.tup [.int 0, .int 1])
        generalize upd J1 u _ = J2 at su hu
        refine ⟨by show 1 ≤ sizeLine; decide, fun o1 no1 => ?_⟩
        have so := same_upd no1 (o := .lst [.ref u])
        have ho := upd_same (H := J2) (a := o1) (o := HO.lst [.ref u])
        generalize upd J2 o1 _ = J3 at so ho
        refine ⟨_, rfl, _, rfl, _, _, rfl, rfl, ?_⟩
        rw [show (fun i j => V.int (i - j)) ((size : Nat) : Int) ((cut : Nat) : Int) = V.int ((rest : Nat) : Int) from congrArg V.int er]
        refine ⟨o1, ((rest : Nat) : Int), [.ref u], rfl, rfl, ho, by omega, by omega, by show 1 * _ ≤ sizeLine; exact small (by omega), fun m nm => ?_⟩
        have s4 := same_upd nm (o := .lst (List.replicate ((rest : Nat) : Int).toNat [V.ref u]).flatten)
        have h4 := upd_same (H := J3) (a := m) (o := HO.lst (List.replicate ((rest : Nat) : Int).toNat [V.ref u]).flatten)
        generalize upd J3 m _ = J4 at s4 h4
        rw [rep_flat, Int.toNat_natCast, ← List.map_replicate] at h4
        refine ⟨z1, m, _, _, rfl, rfl, (su.trans (so.trans s4)) _ _ h1, h4, by rw [List.length_map, List.length_map, List.length_replicate, List.length_take]; exact small (by have := okl.1; omega), fun y ny => ?_⟩
        rw [← List.map_append]
        have s5 := same_upd ny (o := .lst ((xs.take cut ++ List.replicate rest u).map V.ref))
        have h5 := upd_same (H := J4) (a := y) (o := HO.lst ((xs.take cut ++ List.replicate rest u).map V.ref))
        have s15 := s1.trans (su.trans (so.trans (s4.trans s5)))
        have pl : PL (upd J4 y (.lst ((xs.take cut ++ List.replicate rest u).map V.ref))) y (l.take cut ++ List.replicate rest (0, 1)) := ⟨_, h5, A2.app (A2.rep (show PR _ u (0, 1) from (so.trans (s4.trans s5)) _ _ hu) rest) ((A2.take cut hX).mono fun _ _ z => z.same (sm.trans s15))⟩
        refine qt _ _ s15 ⟨cs ++ [y], by rw [List.map_append]; rfl, by rw [List.length_append, lc]; rfl, hC.step s15 (s15 _ _ hD) ((sm.trans (s1.trans (su.trans (so.trans s4)))).free ny) (fun z => by have := (s1.trans (su.trans (so.trans s4))) _ _ hD; rw [← z, ny] at this; cases this) pl ⟨?_, fun v hv => ?_⟩⟩
        · rw [List.length_append, List.length_replicate, List.length_take, okl.1]; omega
        · rcases List.mem_append.mp hv with hv | hv
          · exact okl.2 v (List.mem_of_mem_take hv)
          · rw [List.eq_of_mem_replicate hv]
            exact ⟨by decide, by decide, by decide⟩
      obtain ⟨cs, rfl, lc, hC⟩ := hR
      obtain ⟨L', ⟨_, csL, hL1, hL2⟩, lL', okL'⟩ := fin_of (H0 := G) nD hD1 lc fun c hc => let ⟨_, p, l, q, r⟩ := hC c hc; (⟨p, l, q, r⟩ : G c = none ∧ ∃ l, PL H2 c l ∧ oZ size l)
      exact nx H2 D L' _ s2 ⟨csL, hL1, hL2.mono fun _ _ z => z.2⟩ (by rw [lL', List.length_map]; omega) okL'
    case v3 =>
      intro Dn σ G h
      obtain ⟨d, g, p, ds, many, S, v4, v5, v6, v7, rfl, hd, hp, lS, hm, okS, nx⟩ := h
      refine ⟨.ref d, rfl, d, ds, 2903, 2, rfl, hd, by decide, by decide, fun r r0 r1 => ⟨rfl, _, rfl, ite2 (fun _ => ?_) (fun _ => nx G p S (.refl _) hp lS okS)⟩⟩
      obtain ⟨as, hb0, hA⟩ := hp
      have la := hA.len
      refine ⟨_, rfl, p, rfl, ⟨_, .of hb0⟩, fun D nD => ?_⟩
      refine lc_inv (walk_list (K := K) (a := p) (xs := as.map V.ref)) (fun i G1 ys => ∃ cs : List Addr, ys = cs.map V.ref ∧ cs.length = i ∧ CS G G1 D cs oS) nD (fun G s => .of (s _ _ hb0)) (small' (by rw [List.length_map]; omega)) ⟨[], rfl, rfl, fun _ z => by cases z⟩ (fun i x G1 Gx ys hi sm hD hR y Qt Qf qt qf => ?_) (fun H2 ys s2 hD1 hR => ?_)
      · obtain ⟨rfl, hx⟩ := y
        obtain ⟨cs, rfl, lc, hC⟩ := hR
        obtain ⟨c, ec, rfl⟩ := ref_at hx
        obtain ⟨l, el, hl⟩ := hA.get ec
        obtain ⟨xs, hc, hX⟩ := hl
        have okl := okS l (List.mem_of_getElem? el)
        refine ⟨rfl, _, rfl, c, xs, l, rfl, sm _ _ hc, hX.mono fun _ _ z => z.same sm, by have := okl.1; omega, fun G2 q m s2 nq hq => ?_⟩
        refine qt _ _ s2 ⟨cs ++ [q], by rw [List.map_append]; rfl, by rw [List.length_append, lc]; rfl, hC.step s2 (s2 _ _ hD) (sm.free nq) (fun z => by rw [z, hD] at nq; cases nq) ⟨_, hq, (A2.take m hX).mono fun _ _ z => z.same (sm.trans s2)⟩ ⟨by rw [List.length_take]; have := okl.1; omega, fun v hv => okl.2 v (List.mem_of_mem_take hv)⟩⟩
      obtain ⟨cs, rfl, lc, hC⟩ := hR
      obtain ⟨L', ⟨_, csL, hL1, hL2⟩, lL', okL'⟩ := fin_of (H0 := G) nD hD1 lc fun c hc => let ⟨_, p, l, q, r⟩ := hC c hc; (⟨p, l, q, r⟩ : G c = none ∧ ∃ l, PL H2 c l ∧ oS l)
      exact nx H2 D L' s2 ⟨csL, hL1, hL2.mono fun _ _ z => z.2⟩ (by rw [lL', List.length_map]; omega) okL'
    case v4 =>
      intro Dn σ G h
      obtain ⟨d, g, p, ds, many, S, v4, v5, v6, v7, rfl, hd, hp, lS, hm, okS, nx⟩ := h
      refine ⟨.ref d, rfl, d, ds, 2900, 6, rfl, hd, by decide, by decide, fun r r0 r1 => ⟨rfl, _, rfl, ite2 (fun _ => ?_) (fun _ => nx G p S (.refl _) hp lS okS)⟩⟩
      exact ⟨.ref d, rfl, _, rfl, d, ds, 3400, many, rfl, hd, by decide, hm, fun H' p' S' s hS lS' src => nx H' p' S' s hS lS' fun l hl => ⟨src.len l hl, src.ok l hl⟩⟩
    refine ⟨.ref a, rfl, a, ns, rfl, ha, hl, fun H1 d ds s1 nd hd _ => ?_⟩
    refine ⟨.ref d, rfl, by show 2 ≤ sizeLine; decide, fun l0 n0 => ?_⟩
    have t0 := same_upd n0 (o := .lst [.int 6, .int 17])
    have hl0 := upd_same (H := H1) (a := l0) (o := HO.lst [.int 6, .int 17])
    generalize upd H1 l0 _ = H2 at t0 hl0
    have hd2 := hd.same t0
    refine ⟨.ref d, rfl, d, ds, 2904, 8, rfl, hd2, by decide, by decide, fun r1 p1 u1 => ⟨rfl, .inr ⟨_, rfl, ?_⟩⟩⟩
    obtain ⟨bi, eb, b0, b1⟩ : ∃ bi : Int, (if decide (V.int r1 = V.int 3) = true then (1 : Int) else 0) = bi ∧ 0 ≤ bi ∧ bi ≤ 1 := ⟨_, rfl, by split <;> omega, by split <;> omega⟩
    rw [eb]
    have hlt : bi.toNat < [(6 : Int), 17].length := by show _ < 2; omega
    refine ⟨l0, _, _, _, rfl, rfl, .of hl0, at_map' (ns := [6, 17]) (m := bi.toNat) (by omega) hlt, ?_⟩
    obtain ⟨m0, m1⟩ := (by decide : ∀ x ∈ [(6 : Int), 17], 0 < x ∧ x ≤ 17) _ (mem_at (at_map hlt))
    refine ⟨d, ds, _, _, rfl, hd2, by decide, m0, fun r2 p2 u2 => ?_⟩
    obtain ⟨many, em, hm⟩ : ∃ m : Nat, r2 = (m : Int) ∧ m ≤ 16 := ⟨r2.toNat, by omega, by omega⟩
    subst em
    refine ⟨.ref d, rfl, _, rfl, d, ds, 4, many, rfl, hd2, by decide, hm, fun H3 g rs s3 ng hg eg lr => ?_⟩
    have dg : d ≠ g := fun z => by
      have hdd : H2 d = some (.lst (ds.map V.int)) := hd2
      rw [z, ng] at hdd
      cases hdd
    have tg3 := ((tg.same s1).same t0).same s3
    refine ⟨d, g, ds, many, rs, rfl, hd2.same s3, dg, hm, hg, eg, lr, tg3, ?_⟩
    clear hg eg lr tg3
    intro H4 rs v4 hd4 hg eg lr tg4
    refine ⟨.ref d, rfl, d, ds, 3, 13, rfl, hd4, by decide, by decide, fun z z0 z1 => ?_⟩
    obtain ⟨size, rfl⟩ : ∃ m : Nat, z = (m : Nat) := ⟨z.toNat, by omega⟩
    refine ⟨_, rfl, (many : Nat), rfl, by omega, by omega, fun D nD => ?_⟩
    rw [Int.toNat_natCast]
    refine lc_inv (walk_range (lo := 0) (n := many)) (fun i G ys => ∃ cs : List Addr, ys = cs.map V.ref ∧ cs.length = i ∧ CS H4 G D cs (oZ size)) nD (fun _ _ => trivial) (small' (by omega)) ⟨[], rfl, rfl, fun _ z => by cases z⟩ (fun i x G Gx ys hi sm hD hR y Qt Qf qt qf => ?_) (fun H5 ys s5 hD5 hR => ?_)
    · obtain ⟨rfl, rfl⟩ := y
      rw [show (fun m : Nat => V.int ((0 : Int) + (m : Int))) i = V.int ((i : Nat) : Int) from congrArg V.int (Int.zero_add _)]
      obtain ⟨cs, rfl, lc, hC⟩ := hR
      refine ⟨rfl, _, rfl, (size : Nat), rfl, by omega, by omega, fun D2 nD2 => ?_⟩
      refine lc_inv (walk_range (lo := 0) (n := size)) (fun j G2 ys => ∃ (as : List Addr) (rs : List Fr), ys = as.map V.ref ∧ A2 (RP D2 Gx G2) as rs ∧ rs.length = j ∧ ∀ v ∈ rs, R6 v) nD2 (fun _ _ => trivial) (small' (by omega)) ⟨[], [], rfl, .nil, rfl, fun _ z => by cases z⟩ (fun j x G2 Hx ys2 hj sm2 hD2 hR y Qt2 Qf2 qt2 qf2 => ?_) (fun G2 ys2 sm2 hD2 hR => ?_)
      · obtain ⟨rfl, rfl⟩ := y
        rw [show (fun m : Nat => V.int ((0 : Int) + (m : Int))) j = V.int ((j : Nat) : Int) from congrArg V.int (Int.zero_add _)]
        obtain ⟨as, rs2, rfl, hA, lr2, hv⟩ := hR
        refine ⟨rfl, .ref d, rfl, _, rfl, _, _, rfl, rfl, .inl ⟨by decide, by decide⟩, _, _, rfl, rfl, _, rfl, _, _, rfl, rfl, .inl ⟨by decide, by decide⟩, _, _, rfl, rfl, d, ds, _, rfl, (hd4.same sm).same sm2, by omega, fun G3 o nn dd s3 no b1 b2 b3 => ?_⟩
        have s4 := s3.trans (same_upd no (o := .tup [.int (low nn dd).1, .int (low nn dd).2]))
        have oD : o ≠ D2 := fun z => by have := s3 _ _ hD2; rw [← z, no] at this; cases this
        refine qt2 _ _ s4 ⟨as ++ [o], rs2 ++ [low nn dd], by rw [List.map_append]; rfl, A2.snoc ⟨oD, (sm2.trans s3).free no, by rw [show PR _ o _ = (upd (upd G3 o (.tup [.int (low nn dd).1, .int (low nn dd).2])) D2 _ o = _) from rfl, upd_ne oD]; exact upd_same⟩ (rp_all ((sx s4).trans SameX.put) hA), by rw [List.length_append, lr2]; rfl, fun v hv2 => ?_⟩
        rcases List.mem_append.mp hv2 with h | h
        · exact hv v h
        · rw [List.mem_singleton.mp h]
          have a := QF.low_abs (n := nn) (show dd ≠ 0 by omega)
          obtain ⟨_, _, _, _, pos, _⟩ := QF.low_is (n := nn) (show dd ≠ 0 by omega)
          exact ⟨Nat.le_trans a.1 b1, pos, Nat.le_trans a.2 (by omega)⟩
      · obtain ⟨as, rs2, rfl, hA, lr2, hv⟩ := hR
        exact qt _ _ sm2 ⟨cs ++ [D2], by rw [List.map_append]; rfl, by rw [List.length_append, lc]; rfl, hC.step sm2 (sm2 _ _ hD) (sm.free nD2) (fun z => by rw [z, hD] at nD2; cases nD2) ⟨as, hD2, hA.mono fun _ _ z => z.2.2⟩ ⟨lr2, hv⟩⟩
    obtain ⟨cs, rfl, lc, hC⟩ := hR
    obtain ⟨L, ⟨_, csL, hL1, hL2⟩, lL, okL⟩ := fin_of (H0 := H4) nD hD5 lc fun c hc => let ⟨_, p, l, q, r⟩ := hC c hc; (⟨p, l, q, r⟩ : H4 c = none ∧ ∃ l, PL H5 c l ∧ oZ size l)
    have hLL : LL H5 D L := ⟨csL, hL1, hL2.mono fun _ _ z => z.2⟩
    clear hC hL1 hL2 csL
    refine ⟨d, g, D, ds, many, size, L, v4, rfl, hd4.same s5, hLL, lL, hm, okL, by omega, ?_⟩
    clear hLL lL okL
    intro H6 b L v7 s6 hb lL okL
    have s56 := s5.trans s6
    refine ⟨_, rfl, _, rfl, g, b, rs, L, size, rfl, hg.lk (lk s56), hb, eg, fun l hl v hv => ((okL l hl).2 v hv).rr, by omega, fun l hl => (okL l hl).1, by omega, fun H7 p S s7 hS lS src => ?_⟩
    refine ⟨d, g, p, ds, many, S, v4, _, _, v7, rfl, hd4.same (s56.trans s7), hS, by omega, hm, fun l hl => ⟨src.len l hl, src.ok l hl⟩, ?_⟩
    clear hS lS src S p
    intro H8 p S s8 hS lS okS
    refine ⟨d, g, p, ds, many, S, v4, _, _, v7, rfl, hd4.same (s56.trans (s7.trans s8)), hS, lS, hm, okS, ?_⟩
    clear hS lS okS S p
    intro H9 p S s9 hp lS okS
    have s49 := s56.trans (s7.trans (s8.trans s9))
    have hd9 := hd4.same s49
    have hg9 := hg.lk (lk s49)
    have tg9 := tg4.same s49
    have hb9 := hb.same (s7.trans (s8.trans s9))
    refine ⟨_, rfl, _, rfl, by show 2 ≤ sizeLine; decide, fun t nt => ?_⟩
    have st := same_upd nt (o := .tup [.ref b, .ref p])
    have ht := upd_same (H := H9) (a := t) (o := HO.tup [.ref b, .ref p])
    generalize upd H9 t _ = B0 at st ht
    refine ⟨by show 1 ≤ sizeLine; decide, fun D nD => ?_⟩
    have hD := upd_same (H := B0) (a := D) (o := HO.lst [.ref t])
    have sB := same_upd nD (o := .lst [.ref t])
    generalize upd B0 D _ = G0 at hD sB
    have hdB := hd9.same st
    have hgB := hg9.lk (lk st)
    have tgB := tg9.same st
    have hbB := hb9.same st
    have hpB := hp.same st
    have first : PrD D many G0 (.ref t) := ⟨t, b, p, L, S, rfl, fun l hl => ⟨by rw [(okL l hl).1]; omega, fun v hv => ((okL l hl).2 v hv).rr⟩, by omega, fun l hl => oS.f l (okS l hl), lS, fun G' s => by
      have ss : Same B0 G' := fun c o h => s _ _ (fun z => by rw [z, nD] at h; cases h) (sB _ _ h)
      exact ⟨ss _ _ ht, hbB.same ss, hpB.same ss⟩⟩
    refine ⟨6, rfl, by decide, by decide, ?_⟩
    rw [show (6 : Int).toNat = 6 from rfl]
    refine for_it (walk_range (lo := 0) (n := 6)) (fun i σ G => Same B0 G ∧ ∃ (v11 : Option V) (ys : List V), σ = SV a d many g v4 (some (.int (size : Nat))) (some (.ref b)) v7 none (some (.ref p)) (some (.ref D)) v11 none none none none ∧ G D = some (.lst ys) ∧ ys.length = i + 1 ∧ ∀ y ∈ ys, PrD D many G y)
      ⟨sB, none, _, rfl, hD, rfl, fun y hy => by rw [List.mem_singleton.mp hy]; exact first⟩ (fun _ _ _ _ _ => trivial) (fun i x σ G Gx hi pv y => ?_) (fun σ G pv => ?_)
    · obtain ⟨sm, v11, ys, rfl, hDg, ly, hy⟩ := pv
      obtain ⟨rfl, rfl⟩ := y
      rw [show (fun m : Nat => V.int ((0 : Int) + (m : Int))) i = V.int ((i : Nat) : Int) from congrArg V.int (Int.zero_add _)]
      refine ⟨_, rfl, .inl ⟨rfl, _, .of hDg⟩, _, rfl, _, rfl, _, _, rfl, rfl, .inl ⟨by decide, by decide⟩, _, _, rfl, rfl, _, rfl, _, rfl, d, b, p, _, ds, L, S, many, rfl, hdB.same sm, by omega, hbB.same sm, hpB.same sm, fun l hl => ⟨by rw [(okL l hl).1]; omega, (okL l hl).2⟩, okS, lL, lS, hm, fun G2 t q1 q2 n' s2 ht hq1 hn' hq2 => ?_⟩
      obtain ⟨L', pn1, ln1, ok1⟩ := hq1
      obtain ⟨S', pn2, ln2, ok2⟩ := hq2
      have hD2 := s2 _ _ hDg
      refine ⟨D, _, _, rfl, rfl, hD2, small' (by omega), ?_⟩
      refine ⟨same_over (sm.trans s2) nD, _, ys ++ [.ref t], rfl, upd_same, by rw [List.length_append, ly]; rfl, fun y hy2 => ?_⟩
      rcases List.mem_append.mp hy2 with h | h
      · exact (hy y h).mono ((sx s2).trans SameX.put)
      · rw [List.mem_singleton.mp h]
        refine PrD.mono SameX.put ⟨t, q1, q2, L', S', rfl, ok1, by omega, ok2, ln2, fun G' s => ⟨s _ _ (fun z => by rw [z, hD2] at ht; cases ht) ht, pn1.sx hDg hD2 s, pn2.sx hDg hD2 s⟩⟩
    obtain ⟨sm, v11, ys, rfl, hDg, ly, hy⟩ := pv
    refine ⟨_, rfl, D, rfl, ⟨_, .of hDg⟩, ?_⟩
    refine for_it (walk_list (K := K) (a := D) (xs := ys)) (fun i σ G2 => Lk G G2 ∧ TGs Ps G2 ∧ ∃ (v8 v12 v13 v14 v15 : Option V), σ = SV a d many g v4 (some (.int (size : Nat))) (some (.ref b)) v7 v8 (some (.ref p)) (some (.ref D)) v11 v12 v13 v14 v15)
      ⟨fun _ _ h _ => h, tgB.same sm, _, _, _, _, _, rfl⟩ (fun i σ G2 _ hP => .of (hP.1.lst hDg)) (fun i x σ G2 Gx hi hP y => ?_) (fun σ G2 hP => ?_)
    · obtain ⟨l2, tg2, v8, v12, v13, v14, v15, rfl⟩ := hP
      obtain ⟨rfl, hx⟩ := y
      obtain ⟨t, q1, q2, L', S', rfl, okL', lL', okS', lS', cl⟩ := hy _ (mem_at hx)
      obtain ⟨ht, hq1, hq2⟩ := cl G fun _ _ _ z => z
      have hgG := (hgB.lk (lk sm)).lk l2
      have k1 := hq1.lk l2
      have k2 := hq2.lk l2
      have l16 := eg.many
      have lSr : S'.length = rs.length := by omega
      have vl : VL L' := fun l hl v hv => (okL' l hl).2 v hv
      have l12 : ∀ l ∈ L', l.length ≤ 1000 := fun l hl => by have := (okL' l hl).1; omega
      have sg : SG2 S' := ⟨fun l hl => (okS' l hl).1, fun l hl v hv e => vw_zero ((okS' l hl).2 v hv) e⟩
      have gD := gd_all eg (by omega) lL' okS' okL'
      have gd0 := PyData.hasDict_of_canLay _ gD.lay
      have gDd : (PyData.tuple [dGr rs, dLL S', dLL L']).depth ≤ 60 := Nat.le_trans gD.dep (by decide)
      have gDl : (PyData.tuple [dGr rs, dLL S', dLL L']).shown.length ≤ sizeLine := Nat.le_trans gD.len (by decide)
      have gDs := gD.sh
      refine ⟨t, _, rfl, .of (l2.tup ht), rfl, _, _, rfl, _, _, rfl, rfl, ?_⟩
      refine ⟨_, rfl, _, rfl, _, rfl, g, q2, q1, rs, S', L', rfl, hgG, k2, k1, eg, sg, lSr, vl, by omega, l12, fun J1 u1 => ?_⟩
      refine ⟨_, rfl, _, rfl, _, rfl, by show 3 ≤ sizeLine; decide, fun z nz => ?_⟩
      have sz := same_upd nz (o := .tup [.ref g, .ref q2, .ref q1])
      have hz := upd_same (H := J1) (a := z) (o := HO.tup [.ref g, .ref q2, .ref q1])
      generalize upd J1 z _ = J2 at sz hz
      have u2 := u1.trans sz
      have dpA : ∀ J z, Lk Gx J → J z = some (.tup [.ref g, .ref q2, .ref q1]) → Dp K J (.ref z) (.tuple [dGr rs, dLL S', dLL L']) := fun J z s h => .tup (.of h) (.cons (dp_gr (hgG.lk s)) (.cons (dp_ll (k2.lk s)) (.cons (dp_ll (k1.lk s)) .nil)))
      refine ⟨z, _, rfl, dpA _ z (lk u2) hz, gDs, gd0, gDd, gDl, ?_⟩
      generalize hkept : (PyData.tuple [dGr rs, dLL S', dLL L']).shown = kept
      refine ⟨_, rfl, _, rfl, _, rfl, g, q2, q1, rs, S', L', rfl, hgG.lk (lk u2), k2.same u2, k1.same u2, tg2.same u2, by omega, by omega, by omega, fun i r hr hf _ => absurd (eg.ex r (List.mem_of_getElem? hr)) (by rw [hf]; exact fun z => nomatch z), fun _ => ⟨fun ne => absurd lSr ne, fun _ => ⟨fun i l hi h12 _ => absurd (okS' l (List.mem_of_getElem? hi)).1 (by omega), fun _ => ⟨eg, vl, l12, fun J3 l3 tg3 => ?_⟩⟩⟩⟩
      have l3x := (lk u2).trans l3
      refine ⟨_, rfl, _, _, _, _, true, rfl, .ty "bool", .base (.bl _), rfl, _, rfl, _, rfl, ?_⟩
      refine ⟨_, rfl, rfl, _, rfl, ?_⟩
      rw [decide_eq_true rfl]
      refine iteF ?_
      refine ⟨_, rfl, _, rfl, _, rfl, by show 3 ≤ sizeLine; decide, fun z2 nz2 => ?_⟩
      have sz2 := same_upd nz2 (o := .tup [.ref g, .ref q2, .ref q1])
      have hz2 := upd_same (H := J3) (a := z2) (o := HO.tup [.ref g, .ref q2, .ref q1])
      generalize upd J3 z2 _ = J4 at sz2 hz2
      refine ⟨z2, _, rfl, dpA _ z2 (l3x.trans (lk sz2)) hz2, gDs, gd0, gDd, gDl, _, rfl, rfl, _, rfl, ?_⟩
      rw [hkept, decide_eq_true rfl]
      refine iteF ?_
      exact ⟨(l2.trans l3x).trans (lk sz2), tg3.same sz2, _, _, _, _, _, rfl⟩
    obtain ⟨l2, tg2, v8, v12, v13, v14, v15, rfl⟩ := hP
    have lF := (lk sm).trans l2
    exact ⟨_, rfl, _, rfl, _, rfl, _, rfl, d, g, p, b, ds, rs, S, L, rfl, IL.lk lF hdB, hgB.lk lF, hpB.lk lF, hbB.lk lF, tg2, by omega, by omega, eg.ex, by omega, fun l hl => (okS l hl).1, fun H' => fin _⟩
end

section
/-- the facts of the text, from what stands behind the top -/
theorem all_mk {l : PySem.W.OpenLaw} {w : World} {K : PySem.W.Frag} {h : Heap} {mg : Str → Option Value} {fa : Addr} (X : K.In h) (G : h.Ns mainGlobals mg) (hfa : mg "law" = some (.ref fa))
    {f0 : Addr} {od0 an0 : Option Addr} {sl0 : Array (Option Value)} {oc0 kV0 dc0 pm0 cd0 ct0 : Value}
    {f1 : Addr} {od1 an1 : Option Addr} {sl1 : Array (Option Value)} {oc1 kV1 dc1 pm1 cd1 ct1 : Value}
    {f2 : Addr} {od2 an2 : Option Addr} {sl2 : Array (Option Value)} {oc2 kV2 dc2 pm2 cd2 ct2 : Value}
    {f3 : Addr} {od3 an3 : Option Addr} {sl3 : Array (Option Value)} {oc3 kV3 dc3 pm3 cd3 ct3 : Value}
    {f4 : Addr} {od4 an4 : Option Addr} {sl4 : Array (Option Value)} {oc4 kV4 dc4 pm4 cd4 ct4 : Value}
    {f5 : Addr} {od5 an5 : Option Addr} {sl5 : Array (Option Value)} {oc5 kV5 dc5 pm5 cd5 ct5 : Value}
    {f6 : Addr} {od6 an6 : Option Addr} {sl6 : Array (Option Value)} {oc6 kV6 dc6 pm6 cd6 ct6 : Value}
    {f7 : Addr} {od7 an7 : Option Addr} {sl7 : Array (Option Value)} {oc7 kV7 dc7 pm7 cd7 ct7 : Value}
    {f8 : Addr} {od8 an8 : Option Addr} {sl8 : Array (Option Value)} {oc8 kV8 dc8 pm8 cd8 ct8 : Value}
    {f9 : Addr} {od9 an9 : Option Addr} {sl9 : Array (Option Value)} {oc9 kV9 dc9 pm9 cd9 ct9 : Value}
    {f10 C10 P10 : Addr} {od10 an10 td10 : Option Addr} {sl10 tl10 : Array (Option Value)} {tv10 : Array Value} {oc10 kV10 dc10 pm10 ct10 te10 : Value}
    {f11 C11 P11 : Addr} {od11 an11 td11 : Option Addr} {sl11 tl11 : Array (Option Value)} {tv11 : Array Value} {oc11 kV11 dc11 pm11 ct11 te11 : Value}
    {f12 : Addr} {od12 an12 : Option Addr} {sl12 : Array (Option Value)} {oc12 kV12 dc12 pm12 cd12 ct12 : Value}
    {f13 : Addr} {od13 an13 : Option Addr} {sl13 : Array (Option Value)} {oc13 kV13 dc13 pm13 cd13 ct13 : Value}
    {f14 : Addr} {od14 an14 : Option Addr} {sl14 : Array (Option Value)} {oc14 kV14 dc14 pm14 cd14 ct14 : Value}
    {f15 : Addr} {od15 an15 : Option Addr} {sl15 : Array (Option Value)} {oc15 kV15 dc15 pm15 cd15 ct15 : Value}
    {f16 : Addr} {od16 an16 : Option Addr} {sl16 : Array (Option Value)} {oc16 kV16 dc16 pm16 cd16 ct16 : Value}
    {f17 : Addr} {od17 an17 : Option Addr} {sl17 : Array (Option Value)} {oc17 kV17 dc17 pm17 cd17 ct17 : Value}
    {f18 : Addr} {od18 an18 : Option Addr} {sl18 : Array (Option Value)} {oc18 kV18 dc18 pm18 cd18 ct18 : Value}
    {f19 : Addr} {od19 an19 : Option Addr} {sl19 : Array (Option Value)} {oc19 kV19 dc19 pm19 cd19 ct19 : Value}
    {f20 : Addr} {od20 an20 : Option Addr} {sl20 : Array (Option Value)} {oc20 kV20 dc20 pm20 cd20 ct20 : Value}
    {f21 : Addr} {od21 an21 : Option Addr} {sl21 : Array (Option Value)} {oc21 kV21 dc21 pm21 cd21 ct21 : Value}
    {f22 : Addr} {od22 an22 : Option Addr} {sl22 : Array (Option Value)} {oc22 kV22 dc22 pm22 cd22 ct22 : Value}
    {f23 : Addr} {od23 an23 : Option Addr} {sl23 : Array (Option Value)} {oc23 kV23 dc23 pm23 cd23 ct23 : Value}
    {f24 : Addr} {od24 an24 : Option Addr} {sl24 : Array (Option Value)} {oc24 kV24 dc24 pm24 cd24 ct24 : Value}
    {f25 : Addr} {od25 an25 : Option Addr} {sl25 : Array (Option Value)} {oc25 kV25 dc25 pm25 cd25 ct25 : Value}
    {f26 : Addr} {od26 an26 : Option Addr} {sl26 : Array (Option Value)} {oc26 kV26 dc26 pm26 cd26 ct26 : Value}
    {f27 : Addr} {od27 an27 : Option Addr} {sl27 : Array (Option Value)} {oc27 kV27 dc27 pm27 cd27 ct27 : Value}
    {f28 : Addr} {od28 an28 : Option Addr} {sl28 : Array (Option Value)} {oc28 kV28 dc28 pm28 cd28 ct28 : Value}
    {f29 : Addr} {od29 an29 : Option Addr} {sl29 : Array (Option Value)} {oc29 kV29 dc29 pm29 cd29 ct29 : Value}
    {f30 : Addr} {od30 an30 : Option Addr} {sl30 : Array (Option Value)} {oc30 kV30 dc30 pm30 cd30 ct30 : Value}
    {f31 : Addr} {od31 an31 : Option Addr} {sl31 : Array (Option Value)} {oc31 kV31 dc31 pm31 cd31 ct31 : Value}
    {f32 : Addr} {od32 an32 : Option Addr} {sl32 : Array (Option Value)} {oc32 kV32 dc32 pm32 cd32 ct32 : Value}
    {f33 : Addr} {od33 an33 : Option Addr} {sl33 : Array (Option Value)} {oc33 kV33 dc33 pm33 cd33 ct33 : Value}
    {f34 : Addr} {od34 an34 : Option Addr} {sl34 : Array (Option Value)} {oc34 kV34 dc34 pm34 cd34 ct34 : Value}
    {q_MOST_VALUES : Tok}
    {CM fI : Addr} {odI anI : Option Addr} {slI : Array (Option Value)} {ocI kVI dcI pmI cdI ctI : Value}
    {e0_C e0_N : Addr} {e0_nm e0_q e0_nk : Str} {e0_tk : Tok} {e0_bs : List Value} {e0_sn : List Str} {e0_sub : List Value} {e0_ab : Bool} {e0_col : Option Bool} {e0_dd : Option Addr} {e0_m0 e0_m1 e0_m3 e0_m5 : Option Value}
    {e1_C e1_N : Addr} {e1_nm e1_q e1_nk : Str} {e1_tk : Tok} {e1_bs : List Value} {e1_sn : List Str} {e1_sub : List Value} {e1_ab : Bool} {e1_col : Option Bool} {e1_dd : Option Addr} {e1_m0 e1_m1 e1_m3 e1_m5 : Option Value}
    {e2_C e2_N : Addr} {e2_nm e2_q e2_nk : Str} {e2_tk : Tok} {e2_bs : List Value} {e2_sn : List Str} {e2_sub : List Value} {e2_ab : Bool} {e2_col : Option Bool} {e2_dd : Option Addr} {e2_m0 e2_m1 e2_m3 e2_m5 : Option Value}
    (a0 : PySem.W.nsIn K mainGlobals "_wording" = some (some (.ref f0))) (l0 : K.lookup f0 = some ⟨oc0, od0, .func (PySem.W.fnOf "_wording" "_wording" (defArgs s_wording) (defBody s_wording) (defScope s_wording) .none kV0 dc0 pm0 an0 cd0 ct0), sl0⟩) (c0 : PySem.W.codeIn K cd0 "_wording" = true) (k0 : PySem.W.keepIn K (.ref f0) = true)
    (a1 : PySem.W.nsIn K mainGlobals "is_exact" = some (some (.ref f1))) (l1 : K.lookup f1 = some ⟨oc1, od1, .func (PySem.W.fnOf "is_exact" "is_exact" (defArgs s_is_exact) (defBody s_is_exact) (defScope s_is_exact) .none kV1 dc1 pm1 an1 cd1 ct1), sl1⟩) (c1 : PySem.W.codeIn K cd1 "is_exact" = true) (k1 : PySem.W.keepIn K (.ref f1) = true)
    (a2 : PySem.W.nsIn K mainGlobals "exact_rows" = some (some (.ref f2))) (l2 : K.lookup f2 = some ⟨oc2, od2, .func (PySem.W.fnOf "exact_rows" "exact_rows" (defArgs s_exact_rows) (defBody s_exact_rows) (defScope s_exact_rows) .none kV2 dc2 pm2 an2 cd2 ct2), sl2⟩) (c2 : PySem.W.codeIn K cd2 "exact_rows" = true) (k2 : PySem.W.keepIn K (.ref f2) = true)
    (a3 : PySem.W.nsIn K mainGlobals "_lowest" = some (some (.ref f3))) (l3 : K.lookup f3 = some ⟨oc3, od3, .func (PySem.W.fnOf "_lowest" "_lowest" (defArgs s_lowest) (defBody s_lowest) (defScope s_lowest) .none kV3 dc3 pm3 an3 cd3 ct3), sl3⟩) (c3 : PySem.W.codeIn K cd3 "_lowest" = true) (k3 : PySem.W.keepIn K (.ref f3) = true)
    (a4 : PySem.W.nsIn K mainGlobals "common_below" = some (some (.ref f4))) (l4 : K.lookup f4 = some ⟨oc4, od4, .func (PySem.W.fnOf "common_below" "common_below" (defArgs s_common_below) (defBody s_common_below) (defScope s_common_below) .none kV4 dc4 pm4 an4 cd4 ct4), sl4⟩) (c4 : PySem.W.codeIn K cd4 "common_below" = true) (k4 : PySem.W.keepIn K (.ref f4) = true)
    (a5 : PySem.W.nsIn K mainGlobals "whole" = some (some (.ref f5))) (l5 : K.lookup f5 = some ⟨oc5, od5, .func (PySem.W.fnOf "whole" "whole" (defArgs s_whole) (defBody s_whole) (defScope s_whole) .none kV5 dc5 pm5 an5 cd5 ct5), sl5⟩) (c5 : PySem.W.codeIn K cd5 "whole" = true) (k5 : PySem.W.keepIn K (.ref f5) = true)
    (a6 : PySem.W.nsIn K mainGlobals "combined" = some (some (.ref f6))) (l6 : K.lookup f6 = some ⟨oc6, od6, .func (PySem.W.fnOf "combined" "combined" (defArgs s_combined) (defBody s_combined) (defScope s_combined) .none kV6 dc6 pm6 an6 cd6 ct6), sl6⟩) (c6 : PySem.W.codeIn K cd6 "combined" = true) (k6 : PySem.W.keepIn K (.ref f6) = true)
    (a7 : PySem.W.nsIn K mainGlobals "_need_exact" = some (some (.ref f7))) (l7 : K.lookup f7 = some ⟨oc7, od7, .func (PySem.W.fnOf "_need_exact" "_need_exact" (defArgs s_need_exact) (defBody s_need_exact) (defScope s_need_exact) .none kV7 dc7 pm7 an7 cd7 ct7), sl7⟩) (c7 : PySem.W.codeIn K cd7 "_need_exact" = true) (k7 : PySem.W.keepIn K (.ref f7) = true)
    (a8 : PySem.W.nsIn K mainGlobals "_need_sources" = some (some (.ref f8))) (l8 : K.lookup f8 = some ⟨oc8, od8, .func (PySem.W.fnOf "_need_sources" "_need_sources" (defArgs s_need_sources) (defBody s_need_sources) (defScope s_need_sources) .none kV8 dc8 pm8 an8 cd8 ct8), sl8⟩) (c8 : PySem.W.codeIn K cd8 "_need_sources" = true) (k8 : PySem.W.keepIn K (.ref f8) = true)
    (a9 : PySem.W.nsIn K mainGlobals "_terms" = some (some (.ref f9))) (l9 : K.lookup f9 = some ⟨oc9, od9, .func (PySem.W.fnOf "_terms" "_terms" (defArgs s_terms) (defBody s_terms) (defScope s_terms) .none kV9 dc9 pm9 an9 cd9 ct9), sl9⟩) (c9 : PySem.W.codeIn K cd9 "_terms" = true) (k9 : PySem.W.keepIn K (.ref f9) = true)
    (a10 : PySem.W.nsIn K mainGlobals "_keeps_row" = some (some (.ref f10))) (l10 : K.lookup f10 = some ⟨oc10, od10, .func (PySem.W.fnOf "_keeps_row" "_keeps_row" (defArgs s_keeps_row) (defBody s_keeps_row) (defScope s_keeps_row) .none kV10 dc10 pm10 an10 (.ref C10) ct10), sl10⟩) (c10 : PySem.W.codeIn K (.ref C10) "_keeps_row" = true) (k10 : PySem.W.keepIn K (.ref f10) = true)
    (t10 : K.lookup C10 = some ⟨te10, td10, .fields tv10, tl10⟩) (p10 : tv10[11]? = some (.ref P10)) (n10 : K.lookup P10 = none)
    (a11 : PySem.W.nsIn K mainGlobals "keeps" = some (some (.ref f11))) (l11 : K.lookup f11 = some ⟨oc11, od11, .func (PySem.W.fnOf "keeps" "keeps" (defArgs s_keeps) (defBody s_keeps) (defScope s_keeps) .none kV11 dc11 pm11 an11 (.ref C11) ct11), sl11⟩) (c11 : PySem.W.codeIn K (.ref C11) "keeps" = true) (k11 : PySem.W.keepIn K (.ref f11) = true)
    (t11 : K.lookup C11 = some ⟨te11, td11, .fields tv11, tl11⟩) (p11 : tv11[11]? = some (.ref P11)) (n11 : K.lookup P11 = none)
    (a12 : PySem.W.nsIn K mainGlobals "_law_draws" = some (some (.ref f12))) (l12 : K.lookup f12 = some ⟨oc12, od12, .func (PySem.W.fnOf "_law_draws" "_law_draws" (defArgs s_law_draws) (defBody s_law_draws) (defScope s_law_draws) .none kV12 dc12 pm12 an12 cd12 ct12), sl12⟩) (c12 : PySem.W.codeIn K cd12 "_law_draws" = true) (k12 : PySem.W.keepIn K (.ref f12) = true)
    (a13 : PySem.W.nsIn K mainGlobals "_law_mix" = some (some (.ref f13))) (l13 : K.lookup f13 = some ⟨oc13, od13, .func (PySem.W.fnOf "_law_mix" "_law_mix" (defArgs s_law_mix) (defBody s_law_mix) (defScope s_law_mix) .none kV13 dc13 pm13 an13 cd13 ct13), sl13⟩) (c13 : PySem.W.codeIn K cd13 "_law_mix" = true) (k13 : PySem.W.keepIn K (.ref f13) = true)
    (a14 : PySem.W.nsIn K mainGlobals "_law_trimmed" = some (some (.ref f14))) (l14 : K.lookup f14 = some ⟨oc14, od14, .func (PySem.W.fnOf "_law_trimmed" "_law_trimmed" (defArgs s_law_trimmed) (defBody s_law_trimmed) (defScope s_law_trimmed) .none kV14 dc14 pm14 an14 cd14 ct14), sl14⟩) (c14 : PySem.W.codeIn K cd14 "_law_trimmed" = true) (k14 : PySem.W.keepIn K (.ref f14) = true)
    (a15 : PySem.W.nsIn K mainGlobals "_law_number" = some (some (.ref f15))) (l15 : K.lookup f15 = some ⟨oc15, od15, .func (PySem.W.fnOf "_law_number" "_law_number" (defArgs s_law_number) (defBody s_law_number) (defScope s_law_number) .none kV15 dc15 pm15 an15 cd15 ct15), sl15⟩) (c15 : PySem.W.codeIn K cd15 "_law_number" = true) (k15 : PySem.W.keepIn K (.ref f15) = true)
    (a16 : PySem.W.nsIn K mainGlobals "_law_element" = some (some (.ref f16))) (l16 : K.lookup f16 = some ⟨oc16, od16, .func (PySem.W.fnOf "_law_element" "_law_element" (defArgs s_law_element) (defBody s_law_element) (defScope s_law_element) .none kV16 dc16 pm16 an16 cd16 ct16), sl16⟩) (c16 : PySem.W.codeIn K cd16 "_law_element" = true) (k16 : PySem.W.keepIn K (.ref f16) = true)
    (a17 : PySem.W.nsIn K mainGlobals "_law_likely" = some (some (.ref f17))) (l17 : K.lookup f17 = some ⟨oc17, od17, .func (PySem.W.fnOf "_law_likely" "_law_likely" (defArgs s_law_likely) (defBody s_law_likely) (defScope s_law_likely) .none kV17 dc17 pm17 an17 cd17 ct17), sl17⟩) (c17 : PySem.W.codeIn K cd17 "_law_likely" = true) (k17 : PySem.W.keepIn K (.ref f17) = true)
    (a18 : PySem.W.nsIn K mainGlobals "_law_orders" = some (some (.ref f18))) (l18 : K.lookup f18 = some ⟨oc18, od18, .func (PySem.W.fnOf "_law_orders" "_law_orders" (defArgs s_law_orders) (defBody s_law_orders) (defScope s_law_orders) .none kV18 dc18 pm18 an18 cd18 ct18), sl18⟩) (c18 : PySem.W.codeIn K cd18 "_law_orders" = true) (k18 : PySem.W.keepIn K (.ref f18) = true)
    (a19 : PySem.W.nsIn K mainGlobals "_law_grid" = some (some (.ref f19))) (l19 : K.lookup f19 = some ⟨oc19, od19, .func (PySem.W.fnOf "_law_grid" "_law_grid" (defArgs s_law_grid) (defBody s_law_grid) (defScope s_law_grid) .none kV19 dc19 pm19 an19 cd19 ct19), sl19⟩) (c19 : PySem.W.codeIn K cd19 "_law_grid" = true) (k19 : PySem.W.keepIn K (.ref f19) = true)
    (a20 : PySem.W.nsIn K mainGlobals "_law_common" = some (some (.ref f20))) (l20 : K.lookup f20 = some ⟨oc20, od20, .func (PySem.W.fnOf "_law_common" "_law_common" (defArgs s_law_common) (defBody s_law_common) (defScope s_law_common) .none kV20 dc20 pm20 an20 cd20 ct20), sl20⟩) (c20 : PySem.W.codeIn K cd20 "_law_common" = true) (k20 : PySem.W.keepIn K (.ref f20) = true)
    (a21 : PySem.W.nsIn K mainGlobals "_law_ratio" = some (some (.ref f21))) (l21 : K.lookup f21 = some ⟨oc21, od21, .func (PySem.W.fnOf "_law_ratio" "_law_ratio" (defArgs s_law_ratio) (defBody s_law_ratio) (defScope s_law_ratio) .none kV21 dc21 pm21 an21 cd21 ct21), sl21⟩) (c21 : PySem.W.codeIn K cd21 "_law_ratio" = true) (k21 : PySem.W.keepIn K (.ref f21) = true)
    (a22 : PySem.W.nsIn K mainGlobals "_law_add" = some (some (.ref f22))) (l22 : K.lookup f22 = some ⟨oc22, od22, .func (PySem.W.fnOf "_law_add" "_law_add" (defArgs s_law_add) (defBody s_law_add) (defScope s_law_add) .none kV22 dc22 pm22 an22 cd22 ct22), sl22⟩) (c22 : PySem.W.codeIn K cd22 "_law_add" = true) (k22 : PySem.W.keepIn K (.ref f22) = true)
    (a23 : PySem.W.nsIn K mainGlobals "_law_multiply" = some (some (.ref f23))) (l23 : K.lookup f23 = some ⟨oc23, od23, .func (PySem.W.fnOf "_law_multiply" "_law_multiply" (defArgs s_law_multiply) (defBody s_law_multiply) (defScope s_law_multiply) .none kV23 dc23 pm23 an23 cd23 ct23), sl23⟩) (c23 : PySem.W.codeIn K cd23 "_law_multiply" = true) (k23 : PySem.W.keepIn K (.ref f23) = true)
    (a24 : PySem.W.nsIn K mainGlobals "_law_drawn_ratio" = some (some (.ref f24))) (l24 : K.lookup f24 = some ⟨oc24, od24, .func (PySem.W.fnOf "_law_drawn_ratio" "_law_drawn_ratio" (defArgs s_law_drawn_ratio) (defBody s_law_drawn_ratio) (defScope s_law_drawn_ratio) .none kV24 dc24 pm24 an24 cd24 ct24), sl24⟩) (c24 : PySem.W.codeIn K cd24 "_law_drawn_ratio" = true) (k24 : PySem.W.keepIn K (.ref f24) = true)
    (a25 : PySem.W.nsIn K mainGlobals "_law_value" = some (some (.ref f25))) (l25 : K.lookup f25 = some ⟨oc25, od25, .func (PySem.W.fnOf "_law_value" "_law_value" (defArgs s_law_value) (defBody s_law_value) (defScope s_law_value) .none kV25 dc25 pm25 an25 cd25 ct25), sl25⟩) (c25 : PySem.W.codeIn K cd25 "_law_value" = true) (k25 : PySem.W.keepIn K (.ref f25) = true)
    (a26 : PySem.W.nsIn K mainGlobals "_law_keeps" = some (some (.ref f26))) (l26 : K.lookup f26 = some ⟨oc26, od26, .func (PySem.W.fnOf "_law_keeps" "_law_keeps" (defArgs s_law_keeps) (defBody s_law_keeps) (defScope s_law_keeps) .none kV26 dc26 pm26 an26 cd26 ct26), sl26⟩) (c26 : PySem.W.codeIn K cd26 "_law_keeps" = true) (k26 : PySem.W.keepIn K (.ref f26) = true)
    (a27 : PySem.W.nsIn K mainGlobals "_law_exact_grid" = some (some (.ref f27))) (l27 : K.lookup f27 = some ⟨oc27, od27, .func (PySem.W.fnOf "_law_exact_grid" "_law_exact_grid" (defArgs s_law_exact_grid) (defBody s_law_exact_grid) (defScope s_law_exact_grid) .none kV27 dc27 pm27 an27 cd27 ct27), sl27⟩) (c27 : PySem.W.codeIn K cd27 "_law_exact_grid" = true) (k27 : PySem.W.keepIn K (.ref f27) = true)
    (a28 : PySem.W.nsIn K mainGlobals "_law_sources" = some (some (.ref f28))) (l28 : K.lookup f28 = some ⟨oc28, od28, .func (PySem.W.fnOf "_law_sources" "_law_sources" (defArgs s_law_sources) (defBody s_law_sources) (defScope s_law_sources) .none kV28 dc28 pm28 an28 cd28 ct28), sl28⟩) (c28 : PySem.W.codeIn K cd28 "_law_sources" = true) (k28 : PySem.W.keepIn K (.ref f28) = true)
    (a29 : PySem.W.nsIn K mainGlobals "_law_fitting" = some (some (.ref f29))) (l29 : K.lookup f29 = some ⟨oc29, od29, .func (PySem.W.fnOf "_law_fitting" "_law_fitting" (defArgs s_law_fitting) (defBody s_law_fitting) (defScope s_law_fitting) .none kV29 dc29 pm29 an29 cd29 ct29), sl29⟩) (c29 : PySem.W.codeIn K cd29 "_law_fitting" = true) (k29 : PySem.W.keepIn K (.ref f29) = true)
    (a30 : PySem.W.nsIn K mainGlobals "_law_cut" = some (some (.ref f30))) (l30 : K.lookup f30 = some ⟨oc30, od30, .func (PySem.W.fnOf "_law_cut" "_law_cut" (defArgs s_law_cut) (defBody s_law_cut) (defScope s_law_cut) .none kV30 dc30 pm30 an30 cd30 ct30), sl30⟩) (c30 : PySem.W.codeIn K cd30 "_law_cut" = true) (k30 : PySem.W.keepIn K (.ref f30) = true)
    (a31 : PySem.W.nsIn K mainGlobals "_law_refused" = some (some (.ref f31))) (l31 : K.lookup f31 = some ⟨oc31, od31, .func (PySem.W.fnOf "_law_refused" "_law_refused" (defArgs s_law_refused) (defBody s_law_refused) (defScope s_law_refused) .none kV31 dc31 pm31 an31 cd31 ct31), sl31⟩) (c31 : PySem.W.codeIn K cd31 "_law_refused" = true) (k31 : PySem.W.keepIn K (.ref f31) = true)
    (a32 : PySem.W.nsIn K mainGlobals "_law_bad" = some (some (.ref f32))) (l32 : K.lookup f32 = some ⟨oc32, od32, .func (PySem.W.fnOf "_law_bad" "_law_bad" (defArgs s_law_bad) (defBody s_law_bad) (defScope s_law_bad) .none kV32 dc32 pm32 an32 cd32 ct32), sl32⟩) (c32 : PySem.W.codeIn K cd32 "_law_bad" = true) (k32 : PySem.W.keepIn K (.ref f32) = true)
    (a33 : PySem.W.nsIn K mainGlobals "_law_spoilt" = some (some (.ref f33))) (l33 : K.lookup f33 = some ⟨oc33, od33, .func (PySem.W.fnOf "_law_spoilt" "_law_spoilt" (defArgs s_law_spoilt) (defBody s_law_spoilt) (defScope s_law_spoilt) .none kV33 dc33 pm33 an33 cd33 ct33), sl33⟩) (c33 : PySem.W.codeIn K cd33 "_law_spoilt" = true) (k33 : PySem.W.keepIn K (.ref f33) = true)
    (a34 : PySem.W.nsIn K mainGlobals "law" = some (some (.ref f34))) (l34 : K.lookup f34 = some ⟨oc34, od34, .func (PySem.W.fnOf "law" "law" (defArgs s_law) (defBody s_law) (defScope s_law) .none kV34 dc34 pm34 an34 cd34 ct34), sl34⟩) (c34 : PySem.W.codeIn K cd34 "law" = true) (k34 : PySem.W.keepIn K (.ref f34) = true)
    (z_abs : PySem.W.nsIn K mainGlobals "abs" = some none)
    (z_all : PySem.W.nsIn K mainGlobals "all" = some none)
    (z_bool : PySem.W.nsIn K mainGlobals "bool" = some none)
    (z_enumerate : PySem.W.nsIn K mainGlobals "enumerate" = some none)
    (z_int : PySem.W.nsIn K mainGlobals "int" = some none)
    (z_isinstance : PySem.W.nsIn K mainGlobals "isinstance" = some none)
    (z_len : PySem.W.nsIn K mainGlobals "len" = some none)
    (z_list : PySem.W.nsIn K mainGlobals "list" = some none)
    (z_max : PySem.W.nsIn K mainGlobals "max" = some none)
    (z_min : PySem.W.nsIn K mainGlobals "min" = some none)
    (z_range : PySem.W.nsIn K mainGlobals "range" = some none)
    (z_repr : PySem.W.nsIn K mainGlobals "repr" = some none)
    (z_sum : PySem.W.nsIn K mainGlobals "sum" = some none)
    (z_zip : PySem.W.nsIn K mainGlobals "zip" = some none)
    (y_gcd : PySem.W.nsIn K mainGlobals "gcd" = some (some (.builtin "math.gcd")))
    (y_lcm : PySem.W.nsIn K mainGlobals "lcm" = some (some (.builtin "math.lcm")))
    (w_MOST_VALUES : PySem.W.nsIn K mainGlobals "MOST_VALUES" = some (some (.int 12 q_MOST_VALUES)))
    (aM : PySem.W.nsIn K mainGlobals "ModelError" = some (some (.ref CM)))
    (zV : PySem.W.nsIn K mainGlobals "ValueError" = some none)
    (vV : PySem.W.findCls K (.type "ValueError") (.type "type") "__init__" = some (.val (.builtin "ValueError.__init__")))
    (iM : PySem.W.isClsIn K CM = true)
    (tM : PySem.W.typeIn K (.ref CM) = some (.type "type"))
    (bM : PySem.W.subIn K (.ref CM) (.type "BaseException") = some true)
    (iI : PySem.W.findIn K (.ref CM) "__init__" = some (some (.ref fI)))
    (lI : K.lookup fI = some ⟨ocI, odI, .func (PySem.W.fnOf "__init__" "ModelError.__init__" (defArgs s_init) (defBody s_init) (defScope s_init) .none kVI dcI pmI anI cdI ctI), slI⟩)
    (cI : PySem.W.codeIn K cdI "ModelError.__init__" = true)
    (kI : PySem.W.keepIn K (.ref fI) = true)
    (tI : PySem.W.typeIn K (.ref fI) = some (.type "function"))
    (xsp : PySem.W.specialIn K (.builtin "object.__class__") "__get__" = some (some (.builtin "getset_descriptor.__get__")))
    (xtk : PySem.W.takesIn K (.builtin "object.__class__") = some true)
    (e0_a : PySem.W.nsIn K mainGlobals "NotExact" = some (some (.ref e0_C)))
    (e0_x : K.lookup e0_C = some (excClassObj e0_nm e0_q e0_C e0_N e0_bs [.ref CM, .type "ValueError", .type "Exception", .type "BaseException", .type "object"] true e0_sn e0_sub e0_ab e0_col e0_dd e0_m0 e0_m1 (some (.str e0_nk e0_tk)) e0_m3 e0_m5 "ValueError.__new__"))
    (e0_sz : e0_nk.length ≤ 1000)
    (e0_sa : PySem.W.findIn K (.ref e0_C) "__setattr__" = some (some (.builtin "object.__setattr__")))
    (e0_ga : PySem.W.findIn K (.ref e0_C) "__getattribute__" = some (some (.builtin "BaseException.__getattribute__")))
    (e0_gg : PySem.W.findIn K (.ref e0_C) "__getattr__" = some none)
    (e0_no : PySem.W.findIn K (.ref e0_C) "at" = some none)
    (e0_in : PySem.W.findIn K (.ref e0_C) "__init__" = some (some (.ref fI)))
    (e0_be : PySem.W.subIn K (.ref e0_C) (.type "BaseException") = some true)
    (e0_ty : PySem.W.typeIn K (.ref e0_C) = some (.type "type"))
    (e0_ke : PySem.W.keepIn K (.ref e0_C) = true)
    (e0_hd : PySem.W.hasDictIn K e0_C = true)
    (e0_cl : PySem.W.isClsIn K e0_C = true)
    (e0_at : PySem.W.findIn K (.ref e0_C) "__class__" = some (some (.builtin "object.__class__")))
    (e0_mr : PySem.W.mroIn K e0_C (.type "object") = some true)
    (e0_rd : PySem.W.readsIn K e0_C (.type "type") = true)
    (e0_fc : PySem.W.findCls K (.ref e0_C) (.type "type") "__name__" = some (.get (.builtin "getset_descriptor.__get__") (.builtin "type.__name__") (.ref e0_C) (.type "type")))
    (e0_sM : PySem.W.subIn K (.ref e0_C) (.ref CM) = some true)
    (e1_a : PySem.W.nsIn K mainGlobals "WrongSize" = some (some (.ref e1_C)))
    (e1_x : K.lookup e1_C = some (excClassObj e1_nm e1_q e1_C e1_N e1_bs [.ref CM, .type "ValueError", .type "Exception", .type "BaseException", .type "object"] true e1_sn e1_sub e1_ab e1_col e1_dd e1_m0 e1_m1 (some (.str e1_nk e1_tk)) e1_m3 e1_m5 "ValueError.__new__"))
    (e1_sz : e1_nk.length ≤ 1000)
    (e1_sa : PySem.W.findIn K (.ref e1_C) "__setattr__" = some (some (.builtin "object.__setattr__")))
    (e1_ga : PySem.W.findIn K (.ref e1_C) "__getattribute__" = some (some (.builtin "BaseException.__getattribute__")))
    (e1_gg : PySem.W.findIn K (.ref e1_C) "__getattr__" = some none)
    (e1_no : PySem.W.findIn K (.ref e1_C) "at" = some none)
    (e1_in : PySem.W.findIn K (.ref e1_C) "__init__" = some (some (.ref fI)))
    (e1_be : PySem.W.subIn K (.ref e1_C) (.type "BaseException") = some true)
    (e1_ty : PySem.W.typeIn K (.ref e1_C) = some (.type "type"))
    (e1_ke : PySem.W.keepIn K (.ref e1_C) = true)
    (e1_hd : PySem.W.hasDictIn K e1_C = true)
    (e1_cl : PySem.W.isClsIn K e1_C = true)
    (e1_at : PySem.W.findIn K (.ref e1_C) "__class__" = some (some (.builtin "object.__class__")))
    (e1_mr : PySem.W.mroIn K e1_C (.type "object") = some true)
    (e1_rd : PySem.W.readsIn K e1_C (.type "type") = true)
    (e1_fc : PySem.W.findCls K (.ref e1_C) (.type "type") "__name__" = some (.get (.builtin "getset_descriptor.__get__") (.builtin "type.__name__") (.ref e1_C) (.type "type")))
    (e1_sM : PySem.W.subIn K (.ref e1_C) (.ref CM) = some true)
    (e2_a : PySem.W.nsIn K mainGlobals "OutOfRange" = some (some (.ref e2_C)))
    (e2_x : K.lookup e2_C = some (excClassObj e2_nm e2_q e2_C e2_N e2_bs [.ref CM, .type "ValueError", .type "Exception", .type "BaseException", .type "object"] true e2_sn e2_sub e2_ab e2_col e2_dd e2_m0 e2_m1 (some (.str e2_nk e2_tk)) e2_m3 e2_m5 "ValueError.__new__"))
    (e2_sz : e2_nk.length ≤ 1000)
    (e2_sa : PySem.W.findIn K (.ref e2_C) "__setattr__" = some (some (.builtin "object.__setattr__")))
    (e2_ga : PySem.W.findIn K (.ref e2_C) "__getattribute__" = some (some (.builtin "BaseException.__getattribute__")))
    (e2_gg : PySem.W.findIn K (.ref e2_C) "__getattr__" = some none)
    (e2_no : PySem.W.findIn K (.ref e2_C) "at" = some none)
    (e2_in : PySem.W.findIn K (.ref e2_C) "__init__" = some (some (.ref fI)))
    (e2_be : PySem.W.subIn K (.ref e2_C) (.type "BaseException") = some true)
    (e2_ty : PySem.W.typeIn K (.ref e2_C) = some (.type "type"))
    (e2_ke : PySem.W.keepIn K (.ref e2_C) = true)
    (e2_hd : PySem.W.hasDictIn K e2_C = true)
    (e2_cl : PySem.W.isClsIn K e2_C = true)
    (e2_at : PySem.W.findIn K (.ref e2_C) "__class__" = some (some (.builtin "object.__class__")))
    (e2_mr : PySem.W.mroIn K e2_C (.type "object") = some true)
    (e2_rd : PySem.W.readsIn K e2_C (.type "type") = true)
    (e2_fc : PySem.W.findCls K (.ref e2_C) (.type "type") "__name__" = some (.get (.builtin "getset_descriptor.__get__") (.builtin "type.__name__") (.ref e2_C) (.type "type")))
    (e2_sM : PySem.W.subIn K (.ref e2_C) (.ref CM) = some true)
    (kp0_1 : PySem.W.kitOne K (.ref e0_C) (.ref e1_C) = some false)
    (kp0_2 : PySem.W.kitOne K (.ref e0_C) (.ref e2_C) = some false)
    (kp1_0 : PySem.W.kitOne K (.ref e1_C) (.ref e0_C) = some false)
    (kp1_2 : PySem.W.kitOne K (.ref e1_C) (.ref e2_C) = some false)
    (kp2_0 : PySem.W.kitOne K (.ref e2_C) (.ref e0_C) = some false)
    (kp2_1 : PySem.W.kitOne K (.ref e2_C) (.ref e1_C) = some false)
    (bare : ∀ nm ∈ (["_keeps_row", "keeps"] : List Str), LG.Bare mg h nm)
    : ∃ (fd : FuncData) (cs : List (Addr × Addr)) (sp : Sp), (∀ p ∈ cs, h.get? p.2 = some { cls := .none, data := .fields #[] }) ∧ (∀ p ∈ cs, K.lookup p.2 = none) ∧ (∀ p ∈ cs, PySem.W.CodeHd h p.1 p.2) ∧ (∀ (s : Shared) (u : Value), BindsTo s fd ⟨[u], []⟩ [("script", u)]) ∧
        (∀ (H : Hp) (a : Addr) (ns : List Int), ns.length ≤ 63 → (∀ p ∈ cs, H p.2 = some (.tbl #[])) → SqL K H a (ns.map V.int) → sp [.ref a] H (fun v _ => v = .bl true) fun _ _ _ => False) ∧
        ∀ base : Heap, K.In base → base.Ns mainGlobals mg → (∀ p ∈ cs, GxR.TabB base mg p.1 p.2) → LG.FnG l.prog w K mg base CX0 8 fa fd ["script"] sp := by
  have b10 : h.get? P10 = some { cls := .none, data := .fields #[] } ∧ PySem.W.CodeHd h C10 P10 := by
    obtain ⟨b, c, Q, o, fd, m1, m2, m3, m4, m5, m6⟩ := bare "_keeps_row" (by simp)
    cases m1.symm.trans (PySem.W.mg_of X G a10)
    cases m2.symm.trans (X _ _ l10)
    cases m3
    cases m4
    have m5c := m5
    obtain ⟨o2, vs, _, _, _, _, _, _, _, e1, _, e3, e4, _⟩ := m5c
    cases e1.symm.trans (X _ _ t10)
    cases e3
    cases e4.symm.trans p10
    exact ⟨m6, m5⟩
  have b11 : h.get? P11 = some { cls := .none, data := .fields #[] } ∧ PySem.W.CodeHd h C11 P11 := by
    obtain ⟨b, c, Q, o, fd, m1, m2, m3, m4, m5, m6⟩ := bare "keeps" (by simp)
    cases m1.symm.trans (PySem.W.mg_of X G a11)
    cases m2.symm.trans (X _ _ l11)
    cases m3
    cases m4
    have m5c := m5
    obtain ⟨o2, vs, _, _, _, _, _, _, _, e1, _, e3, e4, _⟩ := m5c
    cases e1.symm.trans (X _ _ t11)
    cases e3
    cases e4.symm.trans p11
    exact ⟨m6, m5⟩
  have e := hfa.symm.trans (PySem.W.mg_of X G a34)
  cases e
  let T : Txt K mg := {
    wording := ⟨_, _, fun_mk (st := s_wording) l0 c0 k0, (fun_mk (st := s_wording) l0 c0 k0).binds (ps := ["name", "at"]) (fun _ _ _ _ _ _ us hl => match us, hl with | [_, _], _ => rfl), PySem.W.mg_of X G a0⟩
    is_exact := ⟨_, _, fun_mk (st := s_is_exact) l1 c1 k1, (fun_mk (st := s_is_exact) l1 c1 k1).binds (ps := ["told"]) (fun _ _ _ _ _ _ us hl => match us, hl with | [_], _ => rfl), PySem.W.mg_of X G a1⟩
    exact_rows := ⟨_, _, fun_mk (st := s_exact_rows) l2 c2 k2, (fun_mk (st := s_exact_rows) l2 c2 k2).binds (ps := ["grid"]) (fun _ _ _ _ _ _ us hl => match us, hl with | [_], _ => rfl), PySem.W.mg_of X G a2⟩
    lowest := ⟨_, _, fun_mk (st := s_lowest) l3 c3 k3, (fun_mk (st := s_lowest) l3 c3 k3).binds (ps := ["n", "d"]) (fun _ _ _ _ _ _ us hl => match us, hl with | [_, _], _ => rfl), PySem.W.mg_of X G a3⟩
    common_below := ⟨_, _, fun_mk (st := s_common_below) l4 c4 k4, (fun_mk (st := s_common_below) l4 c4 k4).binds (ps := ["many"]) (fun _ _ _ _ _ _ us hl => match us, hl with | [_], _ => rfl), PySem.W.mg_of X G a4⟩
    whole := ⟨_, _, fun_mk (st := s_whole) l5 c5 k5, (fun_mk (st := s_whole) l5 c5 k5).binds (ps := ["many", "below"]) (fun _ _ _ _ _ _ us hl => match us, hl with | [_, _], _ => rfl), PySem.W.mg_of X G a5⟩
    combined := ⟨_, _, fun_mk (st := s_combined) l6 c6 k6, (fun_mk (st := s_combined) l6 c6 k6).binds (ps := ["terms"]) (fun _ _ _ _ _ _ us hl => match us, hl with | [_], _ => rfl), PySem.W.mg_of X G a6⟩
    need_exact := ⟨_, _, fun_mk (st := s_need_exact) l7 c7 k7, (fun_mk (st := s_need_exact) l7 c7 k7).binds (ps := ["grid"]) (fun _ _ _ _ _ _ us hl => match us, hl with | [_], _ => rfl), PySem.W.mg_of X G a7⟩
    need_sources := ⟨_, _, fun_mk (st := s_need_sources) l8 c8 k8, (fun_mk (st := s_need_sources) l8 c8 k8).binds (ps := ["grid", "sources"]) (fun _ _ _ _ _ _ us hl => match us, hl with | [_, _], _ => rfl), PySem.W.mg_of X G a8⟩
    terms := ⟨_, _, fun_mk (st := s_terms) l9 c9 k9, (fun_mk (st := s_terms) l9 c9 k9).binds (ps := ["row", "lists", "e"]) (fun _ _ _ _ _ _ us hl => match us, hl with | [_, _, _], _ => rfl), PySem.W.mg_of X G a9⟩
    keeps_row := ⟨_, C10, _, ⟨_, _, _, _, _, _, _, _, _, rfl, l10, c10⟩, k10, (fun_mk (st := s_keeps_row) l10 c10 k10).binds (ps := ["row", "source", "lists", "h"]) (fun _ _ _ _ _ _ us hl => match us, hl with | [_, _, _, _], _ => rfl), PySem.W.mg_of X G a10⟩
    keeps := ⟨_, C11, _, ⟨_, _, _, _, _, _, _, _, _, rfl, l11, c11⟩, k11, (fun_mk (st := s_keeps) l11 c11 k11).binds (ps := ["grid", "sources", "lists"]) (fun _ _ _ _ _ _ us hl => match us, hl with | [_, _, _], _ => rfl), PySem.W.mg_of X G a11⟩
    law_draws := ⟨_, _, fun_mk (st := s_law_draws) l12 c12 k12, (fun_mk (st := s_law_draws) l12 c12 k12).binds (ps := ["script"]) (fun _ _ _ _ _ _ us hl => match us, hl with | [_], _ => rfl), PySem.W.mg_of X G a12⟩
    law_mix := ⟨_, _, fun_mk (st := s_law_mix) l13 c13 k13, (fun_mk (st := s_law_mix) l13 c13 k13).binds (ps := ["draws", "k", "many"]) (fun _ _ _ _ _ _ us hl => match us, hl with | [_, _, _], _ => rfl), PySem.W.mg_of X G a13⟩
    law_trimmed := ⟨_, _, fun_mk (st := s_law_trimmed) l14 c14 k14, (fun_mk (st := s_law_trimmed) l14 c14 k14).binds (ps := ["numbers"]) (fun _ _ _ _ _ _ us hl => match us, hl with | [_], _ => rfl), PySem.W.mg_of X G a14⟩
    law_number := ⟨_, _, fun_mk (st := s_law_number) l15 c15 k15, (fun_mk (st := s_law_number) l15 c15 k15).binds (ps := ["draws", "k"]) (fun _ _ _ _ _ _ us hl => match us, hl with | [_, _], _ => rfl), PySem.W.mg_of X G a15⟩
    law_element := ⟨_, _, fun_mk (st := s_law_element) l16 c16 k16, (fun_mk (st := s_law_element) l16 c16 k16).binds (ps := ["draws", "k", "shares"]) (fun _ _ _ _ _ _ us hl => match us, hl with | [_, _, _], _ => rfl), PySem.W.mg_of X G a16⟩
    law_likely := ⟨_, _, fun_mk (st := s_law_likely) l17 c17 k17, (fun_mk (st := s_law_likely) l17 c17 k17).binds (ps := ["draws", "k", "row"]) (fun _ _ _ _ _ _ us hl => match us, hl with | [_, _, _], _ => rfl), PySem.W.mg_of X G a17⟩
    law_orders := ⟨_, _, fun_mk (st := s_law_orders) l18 c18 k18, (fun_mk (st := s_law_orders) l18 c18 k18).binds (ps := ["draws", "k", "shares"]) (fun _ _ _ _ _ _ us hl => match us, hl with | [_, _, _], _ => rfl), PySem.W.mg_of X G a18⟩
    law_grid := ⟨_, _, fun_mk (st := s_law_grid) l19 c19 k19, (fun_mk (st := s_law_grid) l19 c19 k19).binds (ps := ["draws", "k", "many"]) (fun _ _ _ _ _ _ us hl => match us, hl with | [_, _, _], _ => rfl), PySem.W.mg_of X G a19⟩
    law_common := ⟨_, _, fun_mk (st := s_law_common) l20 c20 k20, (fun_mk (st := s_law_common) l20 c20 k20).binds (ps := ["one", "two"]) (fun _ _ _ _ _ _ us hl => match us, hl with | [_, _], _ => rfl), PySem.W.mg_of X G a20⟩
    law_ratio := ⟨_, _, fun_mk (st := s_law_ratio) l21 c21 k21, (fun_mk (st := s_law_ratio) l21 c21 k21).binds (ps := ["n", "d"]) (fun _ _ _ _ _ _ us hl => match us, hl with | [_, _], _ => rfl), PySem.W.mg_of X G a21⟩
    law_add := ⟨_, _, fun_mk (st := s_law_add) l22 c22 k22, (fun_mk (st := s_law_add) l22 c22 k22).binds (ps := ["one", "two"]) (fun _ _ _ _ _ _ us hl => match us, hl with | [_, _], _ => rfl), PySem.W.mg_of X G a22⟩
    law_multiply := ⟨_, _, fun_mk (st := s_law_multiply) l23 c23 k23, (fun_mk (st := s_law_multiply) l23 c23 k23).binds (ps := ["one", "two"]) (fun _ _ _ _ _ _ us hl => match us, hl with | [_, _], _ => rfl), PySem.W.mg_of X G a23⟩
    law_drawn_ratio := ⟨_, _, fun_mk (st := s_law_drawn_ratio) l24 c24 k24, (fun_mk (st := s_law_drawn_ratio) l24 c24 k24).binds (ps := ["draws", "k"]) (fun _ _ _ _ _ _ us hl => match us, hl with | [_, _], _ => rfl), PySem.W.mg_of X G a24⟩
    law_value := ⟨_, _, fun_mk (st := s_law_value) l25 c25 k25, (fun_mk (st := s_law_value) l25 c25 k25).binds (ps := ["source", "order"]) (fun _ _ _ _ _ _ us hl => match us, hl with | [_, _], _ => rfl), PySem.W.mg_of X G a25⟩
    law_keeps := ⟨_, _, fun_mk (st := s_law_keeps) l26 c26 k26, (fun_mk (st := s_law_keeps) l26 c26 k26).binds (ps := ["grid", "sources", "lists"]) (fun _ _ _ _ _ _ us hl => match us, hl with | [_, _, _], _ => rfl), PySem.W.mg_of X G a26⟩
    law_exact_grid := ⟨_, _, fun_mk (st := s_law_exact_grid) l27 c27 k27, (fun_mk (st := s_law_exact_grid) l27 c27 k27).binds (ps := ["draws", "k", "many"]) (fun _ _ _ _ _ _ us hl => match us, hl with | [_, _, _], _ => rfl), PySem.W.mg_of X G a27⟩
    law_sources := ⟨_, _, fun_mk (st := s_law_sources) l28 c28 k28, (fun_mk (st := s_law_sources) l28 c28 k28).binds (ps := ["draws", "k", "many"]) (fun _ _ _ _ _ _ us hl => match us, hl with | [_, _, _], _ => rfl), PySem.W.mg_of X G a28⟩
    law_fitting := ⟨_, _, fun_mk (st := s_law_fitting) l29 c29 k29, (fun_mk (st := s_law_fitting) l29 c29 k29).binds (ps := ["grid", "lists"]) (fun _ _ _ _ _ _ us hl => match us, hl with | [_, _], _ => rfl), PySem.W.mg_of X G a29⟩
    law_cut := ⟨_, _, fun_mk (st := s_law_cut) l30 c30 k30, (fun_mk (st := s_law_cut) l30 c30 k30).binds (ps := ["source"]) (fun _ _ _ _ _ _ us hl => match us, hl with | [_], _ => rfl), PySem.W.mg_of X G a30⟩
    law_refused := ⟨_, _, fun_mk (st := s_law_refused) l31 c31 k31, (fun_mk (st := s_law_refused) l31 c31 k31).binds (ps := ["grid", "sources", "lists"]) (fun _ _ _ _ _ _ us hl => match us, hl with | [_, _, _], _ => rfl), PySem.W.mg_of X G a31⟩
    law_bad := ⟨_, _, fun_mk (st := s_law_bad) l32 c32 k32, (fun_mk (st := s_law_bad) l32 c32 k32).binds (ps := ["draws", "grid", "sources", "lists"]) (fun _ _ _ _ _ _ us hl => match us, hl with | [_, _, _, _], _ => rfl), PySem.W.mg_of X G a32⟩
    law_spoilt := ⟨_, _, fun_mk (st := s_law_spoilt) l33 c33 k33, (fun_mk (st := s_law_spoilt) l33 c33 k33).binds (ps := ["draws", "k", "lists", "sources"]) (fun _ _ _ _ _ _ us hl => match us, hl with | [_, _, _, _], _ => rfl), PySem.W.mg_of X G a33⟩
    law := ⟨_, _, fun_mk (st := s_law) l34 c34 k34, (fun_mk (st := s_law) l34 c34 k34).binds (ps := ["script"]) (fun _ _ _ _ _ _ us hl => match us, hl with | [_], _ => rfl), PySem.W.mg_of X G a34⟩
    m_abs := PySem.W.mg_none_of X G z_abs
    m_all := PySem.W.mg_none_of X G z_all
    m_bool := PySem.W.mg_none_of X G z_bool
    m_enumerate := PySem.W.mg_none_of X G z_enumerate
    m_int := PySem.W.mg_none_of X G z_int
    m_isinstance := PySem.W.mg_none_of X G z_isinstance
    m_len := PySem.W.mg_none_of X G z_len
    m_list := PySem.W.mg_none_of X G z_list
    m_max := PySem.W.mg_none_of X G z_max
    m_min := PySem.W.mg_none_of X G z_min
    m_range := PySem.W.mg_none_of X G z_range
    m_repr := PySem.W.mg_none_of X G z_repr
    m_sum := PySem.W.mg_none_of X G z_sum
    m_zip := PySem.W.mg_none_of X G z_zip
    x_gcd := PySem.W.mg_of X G y_gcd
    x_lcm := PySem.W.mg_of X G y_lcm
    k_MOST_VALUES := q_MOST_VALUES
    c_MOST_VALUES := PySem.W.mg_of X G w_MOST_VALUES
  }
  let E : Errs K mg := {
    e0 := ⟨CM, fI, _, fun_mk (st := s_init) lI cI kI, (fun_mk (st := s_init) lI cI kI).binds (ps := ["self", "at"]) (fun _ _ _ _ _ _ us hl => match us, hl with | [_, _], _ => rfl), tI, PySem.W.mg_of X G aM, PySem.W.mg_none_of X G zV, vV⟩
    NotExact := { C := e0_C, nm := e0_nk, named := ⟨⟨e0_cl, e0_ga, e0_gg, e0_be, e0_at, xsp, xtk, e0_mr⟩, e0_rd, e0_fc, e0_ty, ⟨_, _, e0_x, rfl⟩, e0_sz⟩, oex := ⟨⟨_, _, _, _, _, _, _, _, _, _, _, _, _, _, _, e0_x, LX.refs_one _⟩, e0_sa, e0_be, e0_ty, e0_ke⟩, noAt := e0_no, iC := e0_in, g := PySem.W.mg_of X G e0_a, exm := LX.exm_is bM iM tM e0_sM, kit := LX.kit_self _ _, xf := ⟨e0_ga, e0_gg, e0_be, e0_hd⟩ }
    WrongSize := { C := e1_C, nm := e1_nk, named := ⟨⟨e1_cl, e1_ga, e1_gg, e1_be, e1_at, xsp, xtk, e1_mr⟩, e1_rd, e1_fc, e1_ty, ⟨_, _, e1_x, rfl⟩, e1_sz⟩, oex := ⟨⟨_, _, _, _, _, _, _, _, _, _, _, _, _, _, _, e1_x, LX.refs_one _⟩, e1_sa, e1_be, e1_ty, e1_ke⟩, noAt := e1_no, iC := e1_in, g := PySem.W.mg_of X G e1_a, exm := LX.exm_is bM iM tM e1_sM, kit := LX.kit_self _ _, xf := ⟨e1_ga, e1_gg, e1_be, e1_hd⟩ }
    OutOfRange := { C := e2_C, nm := e2_nk, named := ⟨⟨e2_cl, e2_ga, e2_gg, e2_be, e2_at, xsp, xtk, e2_mr⟩, e2_rd, e2_fc, e2_ty, ⟨_, _, e2_x, rfl⟩, e2_sz⟩, oex := ⟨⟨_, _, _, _, _, _, _, _, _, _, _, _, _, _, _, e2_x, LX.refs_one _⟩, e2_sa, e2_be, e2_ty, e2_ke⟩, noAt := e2_no, iC := e2_in, g := PySem.W.mg_of X G e2_a, exm := LX.exm_is bM iM tM e2_sM, kit := LX.kit_self _ _, xf := ⟨e2_ga, e2_gg, e2_be, e2_hd⟩ }
    n_NotExact_WrongSize := kp0_1
    n_NotExact_OutOfRange := kp0_2
    n_WrongSize_NotExact := kp1_0
    n_WrongSize_OutOfRange := kp1_2
    n_OutOfRange_NotExact := kp2_0
    n_OutOfRange_WrongSize := kp2_1
  }
  refine ⟨PySem.W.fnOf "law" "law" (defArgs s_law) (defBody s_law) (defScope s_law) .none kV34 dc34 pm34 an34 cd34 ct34, [(C10, P10), (C11, P11)], sp_law K P10 P11, ?_, ?_, ?_, fun s v => .of_eq rfl, fun H a ns hl ht hS => ?_, fun base _ _ tb => ok_law T E (tb (C10, P10) (by simp)) (tb (C11, P11) (by simp))⟩
  · intro p hp; simp only [List.mem_cons, List.not_mem_nil, or_false] at hp; rcases hp with rfl | rfl
    · exact b10.1
    · exact b11.1
  · intro p hp; simp only [List.mem_cons, List.not_mem_nil, or_false] at hp; rcases hp with rfl | rfl
    · exact n10
    · exact n11
  · intro p hp; simp only [List.mem_cons, List.not_mem_nil, or_false] at hp; rcases hp with rfl | rfl
    · exact b10.2
    · exact b11.2
  · exact ⟨a, ns, rfl, hS, hl, ⟨#[], ht (C10, P10) (by simp), trivial⟩, ⟨#[], ht (C11, P11) (by simp), trivial⟩, fun _ => rfl⟩
end
end K70

open PySem PySem.W PyProof.Rows in
set_option maxRecDepth 100000 in
set_option maxHeartbeats 0 in
theorem PySem.Challenge.cw_unsaidsizes_k70_values_that_keep_rows_holds : PySem.Challenge.rw_unsaidsizes_k70_values_that_keep_rows.Holds := by
  w_on; o_law; k_head; (case hw => w_witness2)
  k_fill
  refine LG.walkGT (l := PySem.Challenge.rw_unsaidsizes_k70_values_that_keep_rows) (n := 63) (k := 8) (x := "script") ["_keeps_row", "keeps"] rfl (by decide) rfl ⟨rfl, by decide, by decide⟩ (by kernel_rfl) (fun w h Y => PySem.W.kIn_of Y) ?F
  case F =>
    intro w mg fa h KX G hmg bare
    refine' K70.all_mk KX G hmg ?a0 ?l0 ?c0 ?k0 ?a1 ?l1 ?c1 ?k1 ?a2 ?l2 ?c2 ?k2 ?a3 ?l3 ?c3 ?k3 ?a4 ?l4 ?c4 ?k4 ?a5 ?l5 ?c5 ?k5 ?a6 ?l6 ?c6 ?k6 ?a7 ?l7 ?c7 ?k7 ?a8 ?l8 ?c8 ?k8 ?a9 ?l9 ?c9 ?k9 ?a10 ?l10 ?c10 ?k10 ?t10 ?p10 ?n10 ?a11 ?l11 ?c11 ?k11 ?t11 ?p11 ?n11 ?a12 ?l12 ?c12 ?k12 ?a13 ?l13 ?c13 ?k13 ?a14 ?l14 ?c14 ?k14 ?a15 ?l15 ?c15 ?k15 ?a16 ?l16 ?c16 ?k16 ?a17 ?l17 ?c17 ?k17 ?a18 ?l18 ?c18 ?k18 ?a19 ?l19 ?c19 ?k19 ?a20 ?l20 ?c20 ?k20 ?a21 ?l21 ?c21 ?k21 ?a22 ?l22 ?c22 ?k22 ?a23 ?l23 ?c23 ?k23 ?a24 ?l24 ?c24 ?k24 ?a25 ?l25 ?c25 ?k25 ?a26 ?l26 ?c26 ?k26 ?a27 ?l27 ?c27 ?k27 ?a28 ?l28 ?c28 ?k28 ?a29 ?l29 ?c29 ?k29 ?a30 ?l30 ?c30 ?k30 ?a31 ?l31 ?c31 ?k31 ?a32 ?l32 ?c32 ?k32 ?a33 ?l33 ?c33 ?k33 ?a34 ?l34 ?c34 ?k34 ?z_abs ?z_all ?z_bool ?z_enumerate ?z_int ?z_isinstance ?z_len ?z_list ?z_max ?z_min ?z_range ?z_repr ?z_sum ?z_zip ?y_gcd ?y_lcm ?w_MOST_VALUES ?aM ?zV ?vV ?iM ?tM ?bM ?iI ?lI ?cI ?kI ?tI ?xsp ?xtk ?e0_a ?e0_x ?e0_sz ?e0_sa ?e0_ga ?e0_gg ?e0_no ?e0_in ?e0_be ?e0_ty ?e0_ke ?e0_hd ?e0_cl ?e0_at ?e0_mr ?e0_rd ?e0_fc ?e0_sM ?e1_a ?e1_x ?e1_sz ?e1_sa ?e1_ga ?e1_gg ?e1_no ?e1_in ?e1_be ?e1_ty ?e1_ke ?e1_hd ?e1_cl ?e1_at ?e1_mr ?e1_rd ?e1_fc ?e1_sM ?e2_a ?e2_x ?e2_sz ?e2_sa ?e2_ga ?e2_gg ?e2_no ?e2_in ?e2_be ?e2_ty ?e2_ke ?e2_hd ?e2_cl ?e2_at ?e2_mr ?e2_rd ?e2_fc ?e2_sM ?kp0_1 ?kp0_2 ?kp1_0 ?kp1_2 ?kp2_0 ?kp2_1 bare
    (case a0 => k_is)
    (case l0 => k_is)
    (case c0 => k_is)
    (case k0 => k_is)
    (case a1 => k_is)
    (case l1 => k_is)
    (case c1 => k_is)
    (case k1 => k_is)
    (case a2 => k_is)
    (case l2 => k_is)
    (case c2 => k_is)
    (case k2 => k_is)
    (case a3 => k_is)
    (case l3 => k_is)
    (case c3 => k_is)
    (case k3 => k_is)
    (case a4 => k_is)
    (case l4 => k_is)
    (case c4 => k_is)
    (case k4 => k_is)
    (case a5 => k_is)
    (case l5 => k_is)
    (case c5 => k_is)
    (case k5 => k_is)
    (case a6 => k_is)
    (case l6 => k_is)
    (case c6 => k_is)
    (case k6 => k_is)
    (case a7 => k_is)
    (case l7 => k_is)
    (case c7 => k_is)
    (case k7 => k_is)
    (case a8 => k_is)
    (case l8 => k_is)
    (case c8 => k_is)
    (case k8 => k_is)
    (case a9 => k_is)
    (case l9 => k_is)
    (case c9 => k_is)
    (case k9 => k_is)
    (case a10 => k_is)
    (case l10 => k_is)
    (case c10 => k_is)
    (case k10 => k_is)
    (case t10 => k_is)
    (case p10 => rfl)
    (case n10 => first | kernel_rfl | rfl)
    (case a11 => k_is)
    (case l11 => k_is)
    (case c11 => k_is)
    (case k11 => k_is)
    (case t11 => k_is)
    (case p11 => rfl)
    (case n11 => first | kernel_rfl | rfl)
    (case a12 => k_is)
    (case l12 => k_is)
    (case c12 => k_is)
    (case k12 => k_is)
    (case a13 => k_is)
    (case l13 => k_is)
    (case c13 => k_is)
    (case k13 => k_is)
    (case a14 => k_is)
    (case l14 => k_is)
    (case c14 => k_is)
    (case k14 => k_is)
    (case a15 => k_is)
    (case l15 => k_is)
    (case c15 => k_is)
    (case k15 => k_is)
    (case a16 => k_is)
    (case l16 => k_is)
    (case c16 => k_is)
    (case k16 => k_is)
    (case a17 => k_is)
    (case l17 => k_is)
    (case c17 => k_is)
    (case k17 => k_is)
    (case a18 => k_is)
    (case l18 => k_is)
    (case c18 => k_is)
    (case k18 => k_is)
    (case a19 => k_is)
    (case l19 => k_is)
    (case c19 => k_is)
    (case k19 => k_is)
    (case a20 => k_is)
    (case l20 => k_is)
    (case c20 => k_is)
    (case k20 => k_is)
    (case a21 => k_is)
    (case l21 => k_is)
    (case c21 => k_is)
    (case k21 => k_is)
    (case a22 => k_is)
    (case l22 => k_is)
    (case c22 => k_is)
    (case k22 => k_is)
    (case a23 => k_is)
    (case l23 => k_is)
    (case c23 => k_is)
    (case k23 => k_is)
    (case a24 => k_is)
    (case l24 => k_is)
    (case c24 => k_is)
    (case k24 => k_is)
    (case a25 => k_is)
    (case l25 => k_is)
    (case c25 => k_is)
    (case k25 => k_is)
    (case a26 => k_is)
    (case l26 => k_is)
    (case c26 => k_is)
    (case k26 => k_is)
    (case a27 => k_is)
    (case l27 => k_is)
    (case c27 => k_is)
    (case k27 => k_is)
    (case a28 => k_is)
    (case l28 => k_is)
    (case c28 => k_is)
    (case k28 => k_is)
    (case a29 => k_is)
    (case l29 => k_is)
    (case c29 => k_is)
    (case k29 => k_is)
    (case a30 => k_is)
    (case l30 => k_is)
    (case c30 => k_is)
    (case k30 => k_is)
    (case a31 => k_is)
    (case l31 => k_is)
    (case c31 => k_is)
    (case k31 => k_is)
    (case a32 => k_is)
    (case l32 => k_is)
    (case c32 => k_is)
    (case k32 => k_is)
    (case a33 => k_is)
    (case l33 => k_is)
    (case c33 => k_is)
    (case k33 => k_is)
    (case a34 => k_is)
    (case l34 => k_is)
    (case c34 => k_is)
    (case k34 => k_is)
    (case z_abs => k_is)
    (case z_all => k_is)
    (case z_bool => k_is)
    (case z_enumerate => k_is)
    (case z_int => k_is)
    (case z_isinstance => k_is)
    (case z_len => k_is)
    (case z_list => k_is)
    (case z_max => k_is)
    (case z_min => k_is)
    (case z_range => k_is)
    (case z_repr => k_is)
    (case z_sum => k_is)
    (case z_zip => k_is)
    (case y_gcd => k_is)
    (case y_lcm => k_is)
    (case w_MOST_VALUES => k_is)
    (case aM => k_is)
    (case zV => k_is)
    (case vV => k_is)
    (case iM => k_is)
    (case tM => k_is)
    (case bM => k_is)
    (case iI => k_is)
    (case lI => k_is)
    (case cI => k_is)
    (case kI => k_is)
    (case tI => k_is)
    (case xsp => k_is)
    (case xtk => k_is)
    (case e0_a => k_is)
    (case e0_x => k_is)
    (case e0_sz => decide +kernel)
    (case e0_sa => k_is)
    (case e0_ga => k_is)
    (case e0_gg => k_is)
    (case e0_no => k_is)
    (case e0_in => k_is)
    (case e0_be => k_is)
    (case e0_ty => k_is)
    (case e0_ke => k_is)
    (case e0_hd => k_is)
    (case e0_cl => k_is)
    (case e0_at => k_is)
    (case e0_mr => k_is)
    (case e0_rd => k_is)
    (case e0_fc => k_is)
    (case e0_sM => k_is)
    (case e1_a => k_is)
    (case e1_x => k_is)
    (case e1_sz => decide +kernel)
    (case e1_sa => k_is)
    (case e1_ga => k_is)
    (case e1_gg => k_is)
    (case e1_no => k_is)
    (case e1_in => k_is)
    (case e1_be => k_is)
    (case e1_ty => k_is)
    (case e1_ke => k_is)
    (case e1_hd => k_is)
    (case e1_cl => k_is)
    (case e1_at => k_is)
    (case e1_mr => k_is)
    (case e1_rd => k_is)
    (case e1_fc => k_is)
    (case e1_sM => k_is)
    (case e2_a => k_is)
    (case e2_x => k_is)
    (case e2_sz => decide +kernel)
    (case e2_sa => k_is)
    (case e2_ga => k_is)
    (case e2_gg => k_is)
    (case e2_no => k_is)
    (case e2_in => k_is)
    (case e2_be => k_is)
    (case e2_ty => k_is)
    (case e2_ke => k_is)
    (case e2_hd => k_is)
    (case e2_cl => k_is)
    (case e2_at => k_is)
    (case e2_mr => k_is)
    (case e2_rd => k_is)
    (case e2_fc => k_is)
    (case e2_sM => k_is)
    (case kp0_1 => kit_is)
    (case kp0_2 => kit_is)
    (case kp1_0 => kit_is)
    (case kp1_2 => kit_is)
    (case kp2_0 => kit_is)
    (case kp2_1 => kit_is)
