import PyProof.Rows.All
import Wide.All
import OpenK.AllK
import Wide.FinOn
import KE.KTypeName
import KE.KExcIs
import PyProof.FitsInt
import HandS.Base
import HandS.Call
import HandS.List
import HandS.Comp
import HandS.Ends
import HandS.Iter
import HandS.Wide
import HandS.WideBits
import HandS.Gcd
import HandS.Words
import HandS.WordsList
import HandS.WordsExc
import HandS.IsInst
import HandS.TupLe
import HandS.Exc
import HandS.ExcOwn
import HandS.ExcInit
import HandS.ExcField
import HandS.FStr
import KE.KNest
import PyProof.ReprRoads
import PyProof.StrLawsRepr
import PyProof.StrBlock2
import HandS.Nested
import HandS.AnyAll
import HandS.EndBits
import HandS.SetBool
import HandS.Deep
import HandS.Walk
import HandS.Set
import HandS.Strs
import PyProof.ListOps
import PyProof.Rows.SetFrom
import PyProof.SumAny
import HandS.TryOnly
import HandS.Conv
import HandS.GenOver
import HandS.DictComp
import HandS.SetKeys
import HandS.Dict
import HandS.Small
import PySem.Challenge.RW_unsaidsizes_k08_nodes_of_a_part
import HandS.Sort
import HandS.DictSubView
import HandS.DictTup
import KE.KDictCopyH
import KE.KDictList
import HandS.Style
set_option Elab.async false
set_option linter.all false
set_option maxRecDepth 100000
set_option maxHeartbeats 8000000
-- G
/-! calls under which no text of a list is being made (for repr of lists) -/
namespace LG
open PySem PySem.Spec PyProof.Rows L2
/-- as FnOk, for callers of which it is known that no guard stands -/
structure FnG (P : Program) (w : World) (K : PySem.W.Frag) (mg : Str → Option Value) (base : Heap) (CX : CXT) (k : Nat) (f : Addr) (fd : FuncData) (ps : List Str) (sp : Sp) : Prop where
  len : ∀ vs H Q E, sp vs H Q E → vs.length = ps.length
  run : ∀ (A : Around) (ou : List Env) (s : Shared) (H : Hp) (ar : Args) (us : List Value) (vs : List V) (Q : VK) (E : XK), Room k A → A.guards = some [] → Env0 P w K mg base A ou s H →
    BindsTo s fd ar (ps.zip us) → Vals vs us → sp vs H Q E → codeAny (model P w) A (.call (.ref f) ar) (CR CX ou P w H s Q E) s
section
variable {P : Program} {w : World} {K : PySem.W.Frag} {mg : Str → Option Value} {base : Heap} {CX : CXT} {k : Nat} {f : Addr} {fd : FuncData} {ps : List Str} {sp : Sp}
theorem deeper_guards {A : Around} (e : Env) (h : A.guards = some []) : (A.deeper e).guards = some [] := h
theorem g_of_ok (F : FnOk P w K mg base CX k f fd ps sp) : FnG P w K mg base CX k f fd ps sp := ⟨F.len, fun A ou s H ar us vs Q E hr _ => F.run A ou s H ar us vs Q E hr⟩

/-- a def's body keeps its promise, under known guards -/
theorem fnG_of {nm qu : Str} {pa : Arguments} {bo : List Stmt} {sc : Scope} {dv kv dc pm cd ct oc : Value} {an od : Option Addr} {sl : Array (Option Value)} {N : List Str}
    (hf : K.lookup f = some ⟨oc, od, .func (PySem.W.fnOf nm qu pa bo sc dv kv dc pm an cd ct), sl⟩) (hq : PySem.W.codeIn K cd qu = true) (S : FnScope N ps sc) (ln : ∀ vs H Q E, sp vs H Q E → vs.length = ps.length)
    (hb : ∀ (A : Around) (ou : List Env) (s : Shared) (H : Hp) (vs : List V) (Q : VK) (E : XK), Room k (A.deeper (envOfC qu sc s.heap.objs.size f cd)) → A.guards = some [] → sp vs H Q E →
      ∃ t, PSs (cxOf CX P w K mg base N qu sc f cd A ou s H E) bo t ∧ t { nx := fun _ G => Q .non G, rt := Q } (L2.start N vs) H) :
    FnG P w K mg base CX (k + 1) f (PySem.W.fnOf nm qu pa bo sc dv kv dc pm an cd ct) ps sp := by
  refine ⟨ln, fun A ou s H ar us vs Q E room gd en bd rel want => ?_⟩
  have there : K.In s.heap := en.mod.kin.keeps fun b o z => (en.bs b o z).1
  have nl : s.heap.NoLimit := en.mod.nolimit.keeps fun b o z => (en.bs b o z).1
  refine codeAny_call_function room.depth (there _ _ hf) rfl S.co S.gen rfl (PySem.W.codeRec_of there hq) (bd _ _ _ _ ?_)
  refine wpAny_newFunctionEnv_cells S.kind (fun y hy => ?_) fun env eenv s1 x => ?_
  · obtain ⟨n, v⟩ := y
    exact (S.par n (List.of_mem_zip hy).1).imp id fun q => ⟨q, PySem.W.cellsFrom_some _ _ _ (.inl q)⟩
  subst eenv
  refine ⟨nl.keeps x.toInCall.keep, codeAny_func ?_⟩
  obtain ⟨t, ht, hw⟩ := hb A ou s H vs Q E (room.deeper _) gd want
  have J0 := inv_start (CX := CX) (E := E) S room.hd en (ln _ _ _ _ want) rel x
  refine wpAny_mono (ht.run [] s1 (L2.start N vs) H _ J0 hw) (fun fl s' hs => ?_) fun e s' hs => hs
  cases fl with
  | brk => exact False.elim hs.choose_spec.choose_spec.2
  | cont => exact False.elim hs.choose_spec.choose_spec.2
  | ret u =>
    obtain ⟨v, _, G, J, rv, q⟩ := hs
    exact ⟨v, G, J.os, J.bare, J.base, J.hok, rv, q⟩
  | next =>
    obtain ⟨_, G, J, q⟩ := hs
    exact ⟨V.non, G, J.os, J.bare, J.base, J.hok, rfl, q⟩
/-- .. by the text -/
theorem fun_okG {x qual : Str} {st : Stmt} {N : List Str} (F : Fun K x qual st f fd) (S : FnScope N ps (defScope st)) (ln : ∀ vs H Q E, sp vs H Q E → vs.length = ps.length)
    (hb : ∀ (cd : Value) (A : Around) (ou : List Env) (s : Shared) (H : Hp) (vs : List V) (Q : VK) (E : XK), Room k (A.deeper (envOfC qual (defScope st) s.heap.objs.size f cd)) → A.guards = some [] → sp vs H Q E →
      ∃ t, PSs (cxOf CX0 P w K mg base N qual (defScope st) f cd A ou s H E).nox (defBody st) t ∧ t { nx := fun _ G => Q .non G, rt := Q } (L2.start N vs) H) : FnG P w K mg base CX0 (k + 1) f fd ps sp := by
  obtain ⟨oc, od, kV, doc, pm, an, cd, ct, osl, rfl, lk, hc⟩ := F.ex
  refine fnG_of lk hc S ln fun A ou s H vs Q E hr hg want => ?_
  obtain ⟨t, h, q⟩ := hb cd A ou s H vs Q E hr hg want
  exact ⟨t, h.nox, q⟩
end
section
variable {X : Cx} {CX : CXT} {k : Nat} {f : Addr} {fd : FuncData} {ps : List Str} {sp : Sp} {dvs : List V} {ds : List Value} {E : XK} {x : Str} {p pos : Pos} {e : Expr} {es : List Expr} {t : TA}
theorem pe_callG (F : FnG X.prog X.w X.K X.mg X.base CX k f fd ps sp) (hr : Room k X.A) (gd : X.A.guards = some []) (hg : Gl X x) (hm : X.mg x = some (.ref f)) (hk : PySem.W.keepIn X.K (.ref f) = true) (hb : Binds X.K fd ps ds) (hd : Vals dvs ds) (hx : Passes CX X E)
    (ha : PA X (e :: es) t) (hdb : (x == ("__debug__" : Str)) = false := by decide) (he : starEach (e :: es) X.env = (false, eval e X.env) :: starEach es X.env := by rfl) (hpl : (backTo pos (starEach es X.env)).any (·.1) = false := by rfl) :
    PE X (.Call (.Name x p) (e :: es) [] pos) (tCall sp dvs E t) := by
  refine ⟨fun pins s σ H Q I h => wpAny_Call_Name_kw (ld_glob I hg hm ?_ hdb)⟩
  refine PySem.W.callWith_K (h₀ := X.base) I.ok.mod.kin hk (thn (ha.run pos pins s σ H _ I h) fun us s1 ⟨vs, H1, J, r, q⟩ => ⟨J.kIn, ?_⟩) he hpl
  have r2 : Vals (vs ++ dvs) (us ++ ds) := r.append hd
  have ll : (us ++ ds).length = ps.length := by
    rw [← r2.length]
    exact F.len _ _ _ _ q
  refine wpAny_call (codeAny_mono (F.run X.A X.stack s1 H1 ⟨us, []⟩ (us ++ ds) (vs ++ dvs) Q E hr gd J.env0 (hb s1 us J.kIn ll) r2 q) fun r s' z => ?_)
  cases r with
  | error er => exact hx pins σ H1 s1 er s' J z
  | ok fl =>
    cases fl with
    | ret u => exact J.after z
    | next => exact False.elim z
    | brk => exact False.elim z
    | cont => exact False.elim z
/-- repr of nested data -/
theorem call_reprD (gd : X.A.guards = some []) (hu : X.A.units + 64 < cLine) : CallR X (.builtin "repr") (fun xs H Q => ∃ (a : Addr) (d : PyData), xs = [.ref a] ∧ Dp X.K H (.ref a) d ∧ d.showable = true ∧ d.hasDict = false ∧ d.depth ≤ 60 ∧ d.shown.length ≤ sizeLine ∧ Q (.str d.shown) H) := by
  intro pins s σ H xs us Q I r h
  obtain ⟨a, d, rfl, hd, h1, h2, h3, h4, q⟩ := h
  obtain ⟨u, rfl, e⟩ := vals1 r
  cases (show u = Value.ref a from e)
  obtain ⟨as, rd⟩ := Dp.reads I d (.ref a) (.ref a) hd rfl
  refine PySem.repr_of_reads' rd h1 (fun z => by rw [h2] at z; cases z) gd (by omega) (fun _ _ z => z) (fun h' u tk k => ?_) h4
  exact ⟨.str _, H, I.kept (t' := tk) k, ⟨u, rfl⟩, q⟩
end

/-! the law's own call -/
section
variable {P : Program} {w : World} {K : PySem.W.Frag} {mg mb : Str → Option Value} {k : Nat} {fa a : Addr} {fd : FuncData} {x : Str} {sp : Sp} {s₁ : Shared} {vs : List Value} {ns : List Int}
/-- from one abstract heap, in which the script alone may stand -/
theorem enter (KX : K.In s₁.heap) (gl : s₁.heap.Ns mainGlobals mg) (bl : s₁.heap.Ns builtinsNs mb) (bb : ∀ y : Str, y ≠ "__name__" → mb y = bootBuiltins y) (nl : s₁.heap.NoLimit) (g0 : s₁.gens = #[])
    (at_ : s₁.heap.get? a = some { cls := .type "list", data := .seq vs.toArray }) (room : Room k callerA) (bind : ∀ (s : Shared) (u : Value), BindsTo s fd ⟨[u], []⟩ [(x, u)])
    (F : ∀ base : Heap, K.In base → base.Ns mainGlobals mg → FnG P w K mg base CX0 k fa fd [x] sp) {H : Hp} (only : Only H) (ok : HOk P w H s₁.heap) (alone : ∀ b, H b ≠ none → b = a) (notK : H a ≠ none → K.lookup a = none)
    (want : sp [.ref a] H (fun v _ => v = .bl true) fun _ _ _ => False) :
    codeAny (model P w) callerA (.call (.ref fa) ⟨[.ref a], []⟩) (fun r s' => r = .ok (.ret (.bool true)) ∧ OldK s₁.heap s'.heap ∧ s'.os = s₁.os ∧ AllBare s'.gens) s₁ := by
  have free : ∀ {b : Addr} {o : Obj}, s₁.heap.get? b = some o → (∀ it n, o.data ≠ .seq it n) → H b = none := fun {b o} z nd => by
    cases q : H b with
    | none => rfl
    | some u =>
      obtain rfl := alone b (by rw [q]; exact fun y => nomatch y)
      rw [at_] at z
      cases z
      exact absurd rfl (nd vs.toArray _)
  have nsOf : ∀ {b : Addr} {m : Str → Option Value}, s₁.heap.Ns b m → (hidT s₁.heap H).Ns b m := fun {b m} ⟨o, es, ep, z, d, r⟩ =>
    ⟨o, es, ep, hidT_get z (free z fun it n y => by rw [d] at y; exact nomatch y), d, r⟩
  have inB : K.In (hidT s₁.heap H) := fun b o z => by
    refine hidT_get (KX b o z) ?_
    cases q : H b with
    | none => rfl
    | some u =>
      obtain rfl := alone b (by rw [q]; exact fun y => nomatch y)
      rw [notK (by rw [q]; exact fun y => nomatch y)] at z
      cases z
  have md : Mod K mg (hidT s₁.heap H) := ⟨inB, nsOf gl, ⟨mb, nsOf bl, bb⟩, let ⟨mc, y1, y2⟩ := nl; ⟨mc, nsOf y1, y2⟩⟩
  have en : Env0 P w K mg (hidT s₁.heap H) callerA [] s₁ H := ⟨rfl, md, fun b o z => of_hidT z, Nat.le_of_eq (hidT_size _ _), trivial, fun b z => absurd (show b ∈ ([] : List Addr) from z) (List.not_mem_nil), ok, .of_eq g0⟩
  refine codeAny_mono ((F _ inB (nsOf gl)).run callerA [] s₁ H ⟨[.ref a], []⟩ [.ref a] [.ref a] _ _ room rfl en (bind s₁ (.ref a)) (.cons rfl .nil) want) fun r s' h => ?_
  cases r with
  | error e => exact False.elim h
  | ok fl =>
    cases fl with
    | next => exact False.elim h
    | brk => exact False.elim h
    | cont => exact False.elim h
    | ret u =>
      obtain ⟨v, G, e1, e2, un, okG, rel, q⟩ := h
      obtain rfl : v = V.bl true := q
      obtain rfl : u = Value.bool true := rel
      refine ⟨rfl, OldK.of_keep fun b o z => ?_, e1, e2⟩
      cases q : H b with
      | none => exact un.keep b o z q (fun y => nomatch y) (fun y => nomatch y)
      | some u =>
        rcases only b with y | ⟨ob, xs, y⟩
        · rw [q] at y
          cases y
        · have z1 := (ok b _ y).1
          have z2 := (okG b _ (un.frzs b ob _ y)).1
          rw [z] at z1
          cases z1
          exact z2

theorem enter_all (KX : K.In s₁.heap) (gl : s₁.heap.Ns mainGlobals mg) (bl : s₁.heap.Ns builtinsNs mb) (bb : ∀ y : Str, y ≠ "__name__" → mb y = bootBuiltins y) (nl : s₁.heap.NoLimit) (g0 : s₁.gens = #[])
    (at_ : s₁.heap.get? a = some { cls := .type "list", data := .seq vs.toArray }) (ia : IntsAre vs ns) (small : ns.length ≤ sizeLine) (room : Room k callerA) (bind : ∀ (s : Shared) (u : Value), BindsTo s fd ⟨[u], []⟩ [(x, u)])
    (F : ∀ base : Heap, K.In base → base.Ns mainGlobals mg → FnG P w K mg base CX0 k fa fd [x] sp) (want : ∀ H : Hp, Only H → SqL K H a (ns.map V.int) → sp [.ref a] H (fun v _ => v = .bl true) fun _ _ _ => False) :
    codeAny (model P w) callerA (.call (.ref fa) ⟨[.ref a], []⟩) (fun r s' => r = .ok (.ret (.bool true)) ∧ OldK s₁.heap s'.heap ∧ s'.os = s₁.os ∧ AllBare s'.gens) s₁ := by
  have rel := vals_ints ia
  cases hk : K.lookup a with
  | some o =>
    have z := KX a o hk
    rw [at_] at z
    cases z
    have only : Only (fun _ => none) := fun _ => .inl rfl
    have len := ia.length
    exact enter KX gl bl bb nl g0 at_ room bind F only (fun b u z => by cases z) (fun b z => absurd rfl z) (fun z => absurd rfl z)
      (want _ only (.inr ⟨_, vs.toArray, _, hk, rfl, rfl, rfl, by rw [List.size_toArray, len]; exact small, by simpa using rel⟩))
  | none =>
    let ob : Obj := { cls := .type "list", data := .seq vs.toArray }
    let H : Hp := fun b => if b = a then some (.frz ob (.lst (ns.map V.int))) else none
    have hit : H a = some (.frz ob (.lst (ns.map V.int))) := if_pos rfl
    have one : ∀ b, H b ≠ none → b = a := fun b z => by
      by_cases e : b = a
      · exact e
      · exact absurd (if_neg e) z
    have only : Only H := fun b => by
      by_cases e : b = a
      · exact .inr ⟨ob, ns.map V.int, if_pos e⟩
      · exact .inl (if_neg e)
    refine enter KX gl bl bb nl g0 at_ room bind F only (fun b u z => ?_) one (fun _ => hk) (want H only (.inl (.inr ⟨ob, hit⟩)))
    obtain rfl := one b (by rw [z]; exact fun y => nomatch y)
    rw [hit] at z
    cases z
    exact ⟨at_, by rw [List.length_map]; exact small, vs, _, rel, at_⟩
end
/-- what k_head leaves, from the law's promise -/
theorem walkG {l : PySem.W.OpenLaw} {n k : Nat} {q : Program} {loose : List Str} {XP : (Str → Option Value) → Heap → Prop} {YP : World → Heap → Prop} {d : DefRec} {K : Params → PySem.W.Frag} {sp : PySem.W.Frag → Sp} {x : Str}
    (hn : l.most = some n) (hz : n ≤ sizeLine) (hdf : d.params.defaults = []) (room : Room k callerA) (hY : ∀ (w : World) (h : Heap), YP w h → (K w.params).In h)
    (F : ∀ (w : World) (mg : Str → Option Value) (fa : Addr) (h : Heap), (K w.params).In h → h.Ns mainGlobals mg → mg d.name = some (.ref fa) →
      ∃ fd : FuncData, (∀ (s : Shared) (u : Value), BindsTo s fd ⟨[u], []⟩ [(x, u)]) ∧ ∀ base : Heap, (K w.params).In base → base.Ns mainGlobals mg → FnG l.prog w (K w.params) mg base CX0 k fa fd [x] (sp (K w.params)))
    (want : ∀ (K : PySem.W.Frag) (H : Hp) (a : Addr) (ns : List Int), ns.length ≤ n → Only H → SqL K H a (ns.map V.int) → sp K [.ref a] H (fun v _ => v = .bl true) fun _ _ _ => False) :
    PySem.W.WalkO q loose XP YP l.row.toRowW d [] (fun f vs => PySem.call f vs) := by
  refine Att.attach_call hn hdf fun w s0 s1 mg mb fa o pm cd doc a vs ns G Y ho hd hcd hmg hobj ia len g0 => ?_
  obtain ⟨fd, bi, FF⟩ := F w mg fa _ (hY w _ Y) G.T.g hmg
  exact enter_all (hY w _ Y) G.T.g G.T.b G.T.builtins G.T.nolimit g0 hobj ia (Nat.le_trans len hz) room bi FF fun H only hs => want _ H a ns len only hs
end LG
-- GL
/-! elements of generator expressions that call nothing of the text: values by names, under whatever frames -/
namespace LE
open PySem PySem.Spec PyProof.Rows L2
/-- where such an element is reckoned: the names that it sees, what stands as the def that holds it had it -/
structure Site (X : Cx) (sc : Scope) (H : Hp) (Γ : List (Str × V)) (ce : Env) (t : Shared) : Prop where
  fn : sc.kind = .function
  eqs : ce.scope = sc
  gl : ce.globals = mainGlobals
  bl : ce.builtins = builtinsNs
  mod : Mod X.K X.mg X.base
  bs : ∀ b o, X.base.get? b = some o → t.heap.get? b = some o
  obj : ∀ b u, H b = some u → (∀ q, u ≠ .tbl q) → ObjOk X.prog X.w H t.heap b u
  var : ∀ y v, Γ.lookup y = some v → ∃ u, RelV v u ∧ ((sc.names.lookup y = some .local ∧ ∃ m, t.heap.Ns ce.locals m ∧ m y = some u) ∨ (sc.names.lookup y = some .free ∧ ∃ c, ce.cells.lookup y = some c ∧ t.heap.IsCell c (some u)))
section
variable {X : Cx} {sc : Scope} {H : Hp} {Γ : List (Str × V)} {ce : Env} {t t' : Shared}
theorem Site.keeps (S : Site X sc H Γ ce t) (k : Keeps t t') : Site X sc H Γ ce t' := by
  obtain ⟨h', n, rfl, kk⟩ := k
  refine ⟨S.fn, S.eqs, S.gl, S.bl, S.mod, fun b o e => kk _ _ (S.bs b o e), fun b u e n => (S.obj b u e n).stay (fun c v _ y => kk c v y) (fun _ y => y) fun _ _ y => y, fun y v e => ?_⟩
  obtain ⟨u, r, l⟩ := S.var y v e
  refine ⟨u, r, l.imp (fun ⟨a, m, hn, hm⟩ => ⟨a, m, hn.keeps kk, hm⟩) fun ⟨a, c, hc, o, ho, hd⟩ => ⟨a, c, hc, o, kk _ _ ho, hd⟩⟩
theorem Site.list {p : Addr} {xs : List V} (S : Site X sc H Γ ce t) (h : SqL X.K H p xs) : ∃ its : List Value, Vals xs its ∧ PlainL t.heap p its.toArray ∧ xs.length ≤ sizeLine := by
  rcases h with (h | ⟨o, h⟩) | ⟨o, its, n, hk, hc, hd, hs, hz, r⟩
  · obtain ⟨z, its, n, r, e⟩ := S.obj p _ h fun _ y => nomatch y
    exact ⟨its, r, ⟨_, n, e, rfl, rfl, rfl⟩, z⟩
  · obtain ⟨_, z, its, n, r, e⟩ := S.obj p _ h fun _ y => nomatch y
    exact ⟨its, r, ⟨_, n, e, rfl, rfl, rfl⟩, z⟩
  · refine ⟨its.toList, r, ⟨o, n, S.bs _ _ (S.mod.kin p o hk), hc, hd, by simpa using hs⟩, ?_⟩
    have e := r.length
    simp only [Array.length_toList] at e
    omega
end
/-- e is v there, and nothing is changed -/
def PU (X : Cx) (sc : Scope) (H : Hp) (Γ : List (Str × V)) (e : Expr) (v : V) : Prop :=
  ∀ (ce : Env) (B : Around) (t : Shared) (F R : Value → Shared → Prop), Site X sc H Γ ce t → (∀ u t', RelV v u → Keeps t t' → R u t') → wpAny (model X.prog X.w) B (eval e ce) R F t
theorem kt (s : Shared) (k : Nat) : Keeps s { s with toks := k } := ⟨s.heap, k, rfl, fun _ _ e => e⟩
theorem k0 (s : Shared) : Keeps s s := kt s s.toks
theorem Keeps.on {a b c : Shared} (h : Keeps a b) (h' : Keeps b c) : Keeps a c := by
  obtain ⟨x, n, rfl, k⟩ := h
  obtain ⟨y, m, rfl, k'⟩ := h'
  exact ⟨y, m, rfl, fun i o e => k' i o (k i o e)⟩
section
variable {X : Cx} {sc : Scope} {H : Hp} {Γ : List (Str × V)} {a b : Expr} {pos : Pos}
theorem pu_var {y : Str} {v : V} (h : Γ.lookup y = some v) (hd : (y == ("__debug__" : Str)) = false := by decide) (hcd : (y == ("__classdict__" : Str)) = false := by decide) : PU X sc H Γ (.Name y pos) v := by
  intro ce B t F R S q
  obtain ⟨u, r, l⟩ := S.var y v h
  have fk : ce.scope.kind = .function := by rw [S.eqs]; exact S.fn
  rcases l with ⟨hl, m, hn, hm⟩ | ⟨hl, c, hc, ho⟩
  · exact wpAny_Name (wpAny_loadName_local fk (show ce.scope.names.lookup y = some .local by rw [S.eqs]; exact hl) hn hm (q u t r (k0 t))) hd
  · exact wpAny_Name (wpAny_loadName_free fk (show ce.scope.names.lookup y = some .free by rw [S.eqs]; exact hl) hc ho (q u t r (k0 t)) hcd) hd
theorem pu_int {i : Int} {j : Nat} : PU X sc H Γ (.Constant (.int i) j pos) (.int i) := fun ce B t F R S q => wpAny_Constant_int (q _ _ ⟨_, rfl⟩ (kt t _))
/-- two ints are compared -/
theorem pu_cmp {op : CmpOp} {g : Int → Int → Bool} {i j : Int} (rule : ∀ (B : Around) (i j : Int) (t u : Tok) (s : Shared) (Q : Value → Shared → Prop) (E : Value → Shared → Prop), Q (.bool (g i j)) s → wpAny (model X.prog X.w) B (compareOp op (.int i t) (.int j u)) Q E s)
    (ha : PU X sc H Γ a (.int i)) (hb : PU X sc H Γ b (.int j)) (hm : behindInMarks op b = false := by rfl) : PU X sc H Γ (.Compare a [op] [b] pos) (.bl (g i j)) := by
  intro ce B t F R S q
  refine wpAny_Compare1 (ha ce B t F _ S fun u t1 r1 k1 => hb ce B t1 F _ (S.keeps k1) fun w t2 r2 k2 => ?_) hm
  obtain ⟨_, rfl⟩ := r1
  obtain ⟨_, rfl⟩ := r2
  exact rule _ _ _ _ _ _ _ _ (q _ _ rfl (Keeps.on k1 k2))
theorem pu_lt {i j : Int} (ha : PU X sc H Γ a (.int i)) (hb : PU X sc H Γ b (.int j)) : PU X sc H Γ (.Compare a [.Lt] [b] pos) (.bl (decide (i < j))) := pu_cmp (g := fun i j => decide (i < j)) (fun _ _ _ _ _ _ _ _ q => lt_int q) ha hb (nomark _)
theorem pu_eqI {i j : Int} (ha : PU X sc H Γ a (.int i)) (hb : PU X sc H Γ b (.int j)) : PU X sc H Γ (.Compare a [.Eq] [b] pos) (.bl (decide (i = j))) := by
  intro ce B t F R S q
  refine wpAny_Compare1 (ha ce B t F _ S fun u t1 r1 k1 => hb ce B t1 F _ (S.keeps k1) fun w t2 r2 k2 => ?_) (nomark _)
  obtain ⟨_, rfl⟩ := r1
  obtain ⟨_, rfl⟩ := r2
  exact eq_int (q _ _ (by show _ = _; congr 1) (Keeps.on k1 k2))
theorem pu_sub {i j : Int} (ha : PU X sc H Γ a (.int i)) (hb : PU X sc H Γ b (.int j)) : PU X sc H Γ (.BinOp a .Sub b pos) (.int (i - j)) := by
  intro ce B t F R S q
  refine wpAny_BinOp (ha ce B t F _ S fun u t1 r1 k1 => hb ce B t1 F _ (S.keeps k1) fun w t2 r2 k2 => ?_)
  obtain ⟨_, rfl⟩ := r1
  obtain ⟨_, rfl⟩ := r2
  exact sub_int (q _ _ ⟨_, rfl⟩ (Keeps.on (Keeps.on k1 k2) (kt t2 _)))
theorem pu_non {j : Nat} : PU X sc H Γ (.Constant .none j pos) .non := fun ce B t F R S q => Constant_none (q _ _ rfl (k0 t))
/-- a is not None -/
theorem pu_notN {v : V} {j : Nat} {p : Pos} (ha : PU X sc H Γ a v) : PU X sc H Γ (.Compare a [.IsNot] [.Constant .none j p] pos) (.bl (!decide (v = .non))) := by
  intro ce B t F R S q
  refine wpAny_Compare1 (ha ce B t F _ S fun u t1 r1 k1 => Constant_none (isnot_none_gen (q _ _ ?_ k1))) rfl
  cases v <;> first
    | (cases r1; rfl)
    | (obtain ⟨t, rfl⟩ := r1; rfl)
theorem pu_one {op : BoolOp} {v : V} (ha : PU X sc H Γ a v) : PU X sc H Γ (.BoolOp op [a] pos) v := fun ce B t F R S q => BoolOp_one (ha ce B t F R S q)
theorem pu_and {rest : List Expr} {c r : Bool} (ha : PU X sc H Γ a (.bl c)) (hb : c = true → PU X sc H Γ (.BoolOp .And (b :: rest) pos) (.bl r)) : PU X sc H Γ (.BoolOp .And (a :: b :: rest) pos) (.bl (c && r)) := by
  intro ce B t F R S q
  refine BoolOp_and (ha ce B t F _ S fun u t1 r1 k1 => ?_)
  cases r1
  refine wpAny_truthy_bool ?_
  cases c with
  | true => exact hb rfl ce B t1 F R (S.keeps k1) fun u t2 r2 k2 => q u t2 r2 (Keeps.on k1 k2)
  | false => exact q _ _ rfl k1
/-- an item of a list, by a place from 0 on -/
theorem pu_ix {p : Addr} {xs : List V} {i : Nat} {v : V} (ha : PU X sc H Γ a (.ref p)) (hb : PU X sc H Γ b (.int (i : Int))) (hl : SqL X.K H p xs) (hi : xs[i]? = some v) (hs : PlainIx b := by exact fun _ _ => rfl) : PU X sc H Γ (.Subscript a b pos) v := by
  intro ce B t F R S q
  refine Subscript_ (ha ce B t F _ S fun u t1 r1 k1 => hb ce B t1 F _ (S.keeps k1) fun w t2 r2 k2 => ?_)
  cases r1
  obtain ⟨_, rfl⟩ := r2
  have S2 := (S.keeps k1).keeps k2
  obtain ⟨its, r, pl, hz⟩ := S2.list hl
  obtain ⟨x, ex, rx⟩ := r.get hi
  have hn := line63
  have hlt : i < xs.length := (List.getElem?_eq_some_iff.mp hi).1
  exact item_listR pl.isList (by omega) (by omega) (by simpa using ex) (q _ _ rx (Keeps.on k1 k2)) (hs _ _)
/-- len of a list -/
theorem pu_len {p : Addr} {xs : List V} {np : Pos} (ha : PU X sc H Γ a (.ref p)) (hl : SqL X.K H p xs) (hg : sc.names.lookup ("len" : Str) = some .globalImplicit) (hm : X.mg "len" = none)
    (he : ∀ ce : Env, starEach [a] ce = (false, eval a ce) :: starEach [] ce := by exact fun _ => rfl) : PU X sc H Γ (.Call (.Name "len" np) [a] [] pos) (.int xs.length) := by
  intro ce B t F R S q
  obtain ⟨mb, h1, h2⟩ := S.mod.blt
  refine wpAny_Call_Name_kw (Calls.Name_function_global (by rw [S.eqs]; exact S.fn) (show ce.scope.names.lookup ("len" : Str) = some .globalImplicit by rw [S.eqs]; exact hg)
    (Calls.loadGlobal_builtin (by rw [S.gl]; exact S.mod.glob.keeps S.bs) hm (by rw [S.bl]; exact h1.keeps S.bs) ((h2 "len" (by decide)).trans boot_len) ?_) (by decide))
  refine PyProof.Rows.callWith_builtin1 ?_ (he ce) rfl
  rw [he ce]
  refine Calls.spliced_cons (ha ce B t F _ S fun u t1 r1 k1 => Calls.spliced_nil ?_)
  cases r1
  obtain ⟨its, r, pl, hz⟩ := (S.keeps k1).list hl
  have hn := line63
  have e := r.length
  exact Calls.call_len_list pl.isList (by simp only [List.size_toArray] <;> omega) (q _ _ ⟨_, by rw [List.size_toArray, e]⟩ (Keeps.on k1 (kt t1 _)))
end
end LE
-- GA
/-! any and all of a generator expression over a list, its element reckoned by GL -/
namespace LE
open PySem PySem.Spec PyProof.Rows L2
open GxR (TabB TabG Tabbed GenS)
theorem pair_of_lookup {α : Type} : ∀ {l : List (Str × α)} {y : Str} {v : α}, l.lookup y = some v → (y, v) ∈ l
  | (k, w) :: r, y, v, h => by
    rw [List.lookup_cons] at h
    cases e : y == k with
    | true =>
      rw [e] at h
      have e2 : y = k := by simpa using e
      cases h
      rw [e2]
      exact List.mem_cons_self
    | false =>
      rw [e] at h
      exact List.mem_cons_of_mem _ (pair_of_lookup h)
/-- what is asked of the expression's scope, to be seen by looking -/
structure GOK (ds sc : Scope) (x : Str) : Prop where
  kind : sc.kind = .function
  co : sc.isCoroutine = false
  cell : ∀ y ∈ sc.names, y.2 ≠ .cell
  dot : sc.names.lookup (".0" : Str) = some NameKind.local
  loc : sc.names.lookup x = some .local
  kin : ∀ y ∈ sc.names, y.2 = .free → ds.names.lookup y.1 = some .cell ∨ ds.names.lookup y.1 = some .free
instance {ds sc : Scope} {x : Str} : Decidable (GOK ds sc x) :=
  decidable_of_iff (sc.kind = .function ∧ sc.isCoroutine = false ∧ (∀ y ∈ sc.names, y.2 ≠ .cell) ∧ sc.names.lookup (".0" : Str) = some NameKind.local ∧ sc.names.lookup x = some .local ∧ ∀ y ∈ sc.names, y.2 = .free → ds.names.lookup y.1 = some .cell ∨ ds.names.lookup y.1 = some .free)
    ⟨fun ⟨a, b, c, d, e, f⟩ => ⟨a, b, c, d, e, f⟩, fun ⟨a, b, c, d, e, f⟩ => ⟨a, b, c, d, e, f⟩⟩
def Gsc (X : Cx) (sc : Scope) (x : Str) : Prop := ∃ ds, X.env.scope = ds ∧ GOK ds sc x
theorem Gsc.gens {X : Cx} {sc : Scope} {x : Str} (g : Gsc X sc x) (ok : X.Ok) : GenS X.env sc x := by
  obtain ⟨ds, rfl, h⟩ := g
  exact ⟨h.kind, h.co, h.cell, h.dot, h.loc, fun y hy e => ok.has _ (h.kin y hy e)⟩
/-- the names of the def that the element sees, and what they hold -/
def Seen (X : Cx) (σ : L2.St) (sc : Scope) (Γ : List (Str × V)) : Prop :=
  ∀ y v, Γ.lookup y = some v → ∃ i : Nat, X.N[i]? = some y ∧ σ[i]? = some (some v) ∧ (X.env.scope.names.lookup y = some .cell ∨ X.env.scope.names.lookup y = some .free) ∧ sc.names.lookup y = some .free
theorem seen_nil {X : Cx} {σ : L2.St} {sc : Scope} : Seen X σ sc [] := fun _ _ h => nomatch h
theorem seen_cons {X : Cx} {σ : L2.St} {sc : Scope} {Γ : List (Str × V)} {y : Str} {v : V} (i : Nat) (hN : X.N[i]? = some y) (hσ : σ[i]? = some (some v)) (hk : X.env.scope.names.lookup y = some .cell ∨ X.env.scope.names.lookup y = some .free) (hf : sc.names.lookup y = some .free)
    (r : Seen X σ sc Γ) : Seen X σ sc ((y, v) :: Γ) := fun z w h => by
  rw [List.lookup_cons] at h
  cases e : z == y with
  | true =>
    rw [e] at h
    cases h
    rw [show z = y by simpa using e]
    exact ⟨i, hN, hσ, hk, hf⟩
  | false =>
    rw [e] at h
    exact r z w h
/-- a generator that is ready, of n turns, the j-th one true as tr says -/
def Rdy (X : Cx) (pins : List (Addr × Obj)) (σ : L2.St) (H1 : Hp) (P : Addr) (n : Nat) (tr : Nat → Bool) (g : Addr) (s5 : Shared) : Prop :=
  ∃ (fp wr : List Addr) (G : Array GenState → Array GenState → Prop) (F : Nat → Value → Prop) (St : Nat → Shared → Prop),
    WalksS X.prog X.w X.A.in1 g fp wr G n F St ∧ St 0 s5 ∧ TruthOf X.prog X.w X.A.in1 F tr ∧ ∀ s', Moved wr G s5 s' → ∃ H2, Tabbed P H1 H2 ∧ Inv X pins σ H2 s'
section
variable {X : Cx} {pins : List (Addr × Obj)} {σ : L2.St} {H : Hp} {s : Shared}
/-- the expression's code object: found, or made and put behind the table -/
theorem code_step {c P : Addr} {pos : Pos} {q : Str} {sc : Scope} {ps : Array Value} {R : Value → Shared → Prop} {E : Value → Shared → Prop} {A : Around} {M : Model} {t : Shared} (hcode : X.env.code = .ref c) (cd : PySem.W.CodeHd t.heap c P)
    (hP : t.heap.get? P = some { cls := .none, data := .fields ps }) (ht : TriplesOk ps.toList)
    (go : ∀ (code : Value) (h3 : Heap) (tk : Nat) (more : Array Value), Heap.ExtBut P t.heap h3 → t.heap.objs.size ≤ h3.objs.size → h3.get? P = some { cls := .none, data := .fields (ps ++ more) } → TriplesOk (ps ++ more).toList → R code { t with heap := h3, toks := tk }) :
    wpAny M A (genexprCode X.env pos q sc) R E t := by
  cases e : codeAmong pos ps.toList with
  | some v =>
    refine PySem.wpAny_genexprCode_hit hcode (cd.code hP ht) e ?_
    have z := go v t.heap t.toks #[] (Heap.ExtBut.refl _ _) (Nat.le_refl _) (by rw [Array.append_empty]; exact hP) (by rw [Array.append_empty]; exact ht)
    exact z
  | none =>
    refine PySem.wpAny_genexprCodeX hcode (cd.code hP ht) (cd.tab hP) e fun d h3 tk x ge lt ic _ it _ => go _ h3 tk _ x (Nat.le_trans ge (Nat.le_of_lt lt)) it.2 ?_
    obtain ⟨_, _, _, _, _, _, _, _, _, _, _, _, _, _, _, _, _, _, _, tr, _⟩ := ic
    exact tr
/-- .. for x in a list -/
theorem gen_list {c P : Addr} {elt iter : Expr} {x : Str} {px gpos : Pos} {sc : Scope} {te : TE} {k : Nat} {Q' : Value → Shared → Prop} {R : Nat → (Nat → Bool) → Hp → Prop}
    (hr : Room k X.A) (TB : TabB X.base X.mg c P) (hcode : X.env.code = .ref c) (S : GenS X.env sc x) (hi : PE X iter te) (hs : ∀ v, genFold iter X.env v = pure v) (I : Inv X pins σ H s)
    (h : te σ H fun v H1 => ∃ (a : Addr) (xs : List V) (tr : Nat → Bool) (Γ : List (Str × V)), v = .ref a ∧ SqL X.K H1 a xs ∧ TabG H1 P ∧ Seen X σ sc Γ ∧ (∀ j w, xs[j]? = some w → PU X sc H1 ((x, w) :: Γ) elt (.bl (tr j))) ∧ R xs.length tr H1)
    (hQ : ∀ n tr H1 g s5, R n tr H1 → Rdy X pins σ H1 P n tr g s5 → Q' (.ref g) s5) :
    wpAny (model X.prog X.w) X.A (eval (.GeneratorExp elt [⟨.Name x px, iter, [], 0⟩] sc gpos) X.env) Q' X.xe s := by
  refine wpAny_GeneratorExp_walksQ hr.hd S.co (closure_ok S.free) S.cell S.dot S.loc S.kind (by have := hr.dp; omega) ?_ hs
  refine thn (hi.run pins s σ H _ I h) fun u s1 ⟨v, H1, I1, r1, a, xs, tr, Γ, ev, hl, ⟨ps, hP, ht⟩, sn, hel, hR⟩ => ?_
  subst ev
  cases (show u = Value.ref a from r1)
  obtain ⟨its, rv, pl, hz⟩ := I1.list hl
  have nlen := rv.length
  refine wpAny_pyIter_list pl.isList ?_
  -- the iterator stands behind all else
  have kp : ∀ b o, s1.heap.get? b = some o → (s1.heap.push { cls := .type "list_iterator", data := .fields #[.ref a, .int 0 0] }).get? b = some o := fun b o e => Heap.get?_push_of_some _ e
  have oP : s1.heap.get? P = some { cls := .none, data := .fields ps } := I1.hok P _ hP
  have nl2 : (s1.heap.push { cls := .type "list_iterator", data := .fields #[.ref a, .int 0 0] }).NoLimit := I1.nolimit.push _
  have hsz2 : (s1.heap.push { cls := .type "list_iterator", data := .fields #[.ref a, .int 0 0] }).objs.size = s1.heap.objs.size + 1 := Heap.size_push ..
  have itA : (s1.heap.push { cls := .type "list_iterator", data := .fields #[.ref a, .int 0 0] }).IsListIter s1.heap.objs.size a 0 := ⟨_, Heap.get?_push_size _ rfl, rfl, rfl⟩
  have hal : a < s1.heap.objs.size := by
    obtain ⟨o, e, _⟩ := pl.isList
    exact Heap.lt_size e
  refine ⟨nl2, code_step (ps := ps) hcode (TB.code.keeps fun b o e => kp b o (I1.bk b o e)) (kp _ _ oP) ht fun code h3 tk more ex ge hP3 ht3 => ?_⟩
  have ge : s1.heap.objs.size + 1 ≤ h3.objs.size := by
    rw [← hsz2]
    exact ge
  obtain ⟨bm, ob, e1, e2, e3, e4, e5, e6, e7, e8⟩ := TB.bm
  have k3 : ∀ b o, b ≠ P → s1.heap.get? b = some o → h3.get? b = some o := fun b o n e => ex b o n (kp b o e)
  refine wpAny_builtinsFor (m := X.mg) (by rw [I1.ok.glob]; exact ((I1.mod.glob.keeps I1.bk).keeps kp).extBut ex TB.gP) e1 e2 (k3 _ _ e4 (I1.bk _ _ e5)) e6 e7 e8 ?_
  have aP : a ≠ P := fun z => by
    obtain ⟨o, e, d, n, e'⟩ := pl.isList
    rw [z, oP] at e
    cases e
    cases e'
  have iP : s1.heap.objs.size ≠ P := fun z => by
    have := Heap.lt_size oP
    rw [← z] at this
    exact Nat.lt_irrefl _ this
  have cP : cStatics ≠ P := fun z => by
    obtain ⟨_, ⟨o, es, ep, ho, hd, _⟩, _⟩ := I1.nolimit
    rw [z, oP] at ho
    cases ho
    cases hd
  have cl : cStatics < s1.heap.objs.size := let ⟨_, q, _⟩ := I1.nolimit; q.lt
  refine ⟨s1.heap.objs.size, [s1.heap.objs.size, a], [s1.heap.objs.size], its.toArray.size, fun i v => its.toArray[i]? = some v, fun i h => h.IsListIter s1.heap.objs.size a i ∧ h.IsList a its.toArray, fun _ => true, fun i y => y = .bool (tr i), rfl,
    fun A' hA => Walks.list hA _ _ (Nat.ne_of_lt hal) _, ⟨itA.at fun o e => ex _ o iP e, ?_⟩, fun b hb => ?_, nl2.extBut ex cP, fun z => ?_, fun href hk => ⟨fun A' E' i v t m _ _ _ _ _ => ?_, fun A' E' i v t m hA hv _ hn hm kk => ?_⟩, fun g h5 tk5 gs bare lt5 sz5 k5 W at5 => ?_⟩
  · obtain ⟨o, e, r⟩ := pl.isList
    exact ⟨o, k3 a o aP e, r⟩
  · show b < h3.objs.size
    rcases List.mem_cons.mp hb with z | z
    · rw [z]
      exact Nat.lt_of_lt_of_le (Nat.lt_succ_self _) ge
    · rw [List.mem_singleton.mp z]
      exact Nat.lt_of_lt_of_le (Nat.lt_succ_of_lt hal) ge
  · have z2 := List.mem_singleton.mp z
    rw [z2] at cl
    exact Nat.lt_irrefl _ cl
  · rw [List.forIn_nil]
    exact wpAny_pure ⟨rfl, k0 t⟩
  · -- one element
    have up : ∀ b o, b ≠ P → s1.heap.get? b = some o → t.heap.get? b = some o := fun b o n e => by
      have lb := Heap.lt_size e
      refine kk b (List.mem_range.mpr (show b < h3.objs.size from Nat.lt_of_lt_of_le (Nat.lt_succ_of_lt lb) ge)) (fun y => ?_) o (hk b o (k3 b o n e))
      rw [List.mem_singleton.mp y] at lb
      exact Nat.lt_irrefl _ lb
    have hv' : its[i]? = some v := by simpa using hv
    obtain ⟨w, ew, rw'⟩ : ∃ w, xs[i]? = some w ∧ RelV w v := by
      have lt : i < xs.length := by
        rw [nlen]
        exact (List.getElem?_eq_some_iff.mp hv').1
      obtain ⟨y, ey, ry⟩ := rv.get (List.getElem?_eq_getElem lt)
      rw [hv'] at ey
      cases ey
      exact ⟨_, List.getElem?_eq_getElem lt, ry⟩
    refine hel i w ew _ A' t E' _ ?_ fun u t' ru ku => ⟨ru, ku⟩
    refine ⟨S.kind, rfl, I1.ok.glob, rfl, I1.mod, fun b o e => up b o (fun z => ?_) (I1.bk b o e), fun b o e n => (I1.hok b o e).stay (fun d y hd ey => up d y (fun z => ?_) ey) (fun _ y => y) fun _ _ y => y, fun y v' e => ?_⟩
    · have := (I1.bs b o e).2
      rw [z, hP] at this
      cases this
    · rcases hd with q | q
      · rw [← q, z, hP] at e
        exact n ps (Option.some.inj e).symm
      · rw [z, hP] at q
        cases q
    · rw [List.lookup_cons] at e
      cases b : y == x with
      | true =>
        rw [b] at e
        have e' : y = x := by simpa using b
        cases e
        exact ⟨v, rw', .inl ⟨by rw [e']; exact S.loc, m, hn, by rw [e']; exact hm⟩⟩
      | false =>
        rw [b] at e
        obtain ⟨j, hN, hσ, hv2, hf⟩ := sn y v' e
        obtain ⟨m1, _, hl1⟩ := I1.loc
        obtain ⟨u, ru, lk⟩ := hl1 j y v' hN hσ (.inr hv2)
        rcases lk with ⟨q1, _⟩ | ⟨_, cc, hc, hcell⟩
        · have q1' : X.env.scope.names.lookup y = some .local := q1
          rcases hv2 with q2 | q2 <;> (rw [q1'] at q2; cases q2)
        · obtain ⟨oc, ec, dc⟩ := hcell
          refine ⟨u, ru, .inr ⟨hf, cc, NdefX.clo_has S.free (pair_of_lookup hf) hc, oc, up cc oc (fun z => ?_) ec, dc⟩⟩
          rw [z, oP] at ec
          cases ec
          cases dc
  · -- behind its making
    simp only [GxR.passing_true, List.length_range] at W
    have en : its.toArray.size = xs.length := by rw [List.size_toArray, nlen]
    refine hQ its.toArray.size tr H1 g _ (by rw [en]; exact hR) ⟨_, _, _, _, _, W.in4_1, at5, fun j y sj Qj Ej hy hq => ?_, fun s' mv => ?_⟩
    · obtain ⟨i, hij, rfl⟩ := hy
      obtain ⟨_, ej⟩ := List.getElem?_eq_some_iff.mp hij
      rw [List.getElem_range] at ej
      rw [← ej]
      exact wpAny_truthy_bool hq
    · have out : ∀ b o, s1.heap.get? b = some o → b ∉ h3.objs.size :: [s1.heap.objs.size] := fun b o e y => by
        have lb := Heap.lt_size e
        rcases List.mem_cons.mp y with z | z
        · rw [z] at lb
          have : (h3.objs.size : Nat) < s1.heap.objs.size := lb
          omega
        · rw [List.mem_singleton.mp z] at lb
          exact Nat.lt_irrefl _ lb
      have J := GxR.inv_tab (more := more) (h' := s'.heap) (g' := s'.gens) (d' := s'.drawn) (t' := s'.toks) I1 hP (fun b o n e => mv.heap b o (out b o e) (k5 b o (k3 b o n e))) (mv.heap P _ (out P _ oP) (k5 P _ hP3)) (AllBare.movedS (I1.bare.push bare) mv)
      rw [GxR.sh_eta s1 s' mv.os] at J
      exact ⟨_, ⟨⟨_, upd_same, ht3⟩, fun b n => upd_ne n⟩, J⟩
/-- any(test for x in a list), all(..) -/
def tGenL (X : Cx) (P : Addr) (x : Str) (sc : Scope) (elt : Expr) (fold : Nat → (Nat → Bool) → Bool) (te : TE) : TE := fun σ H Q => te σ H fun v H1 => ∃ (a : Addr) (xs : List V) (tr : Nat → Bool) (Γ : List (Str × V)), v = .ref a ∧ SqL X.K H1 a xs ∧ TabG H1 P ∧
  Seen X σ sc Γ ∧ (∀ j w, xs[j]? = some w → PU X sc H1 ((x, w) :: Γ) elt (.bl (tr j))) ∧ ∀ H2, Tabbed P H1 H2 → Q (.bl (fold xs.length tr)) H2
def anyTo (n : Nat) (tr : Nat → Bool) : Bool := (List.range n).any tr
def allTo (n : Nat) (tr : Nat → Bool) : Bool := (List.range n).all tr
section
variable {c P : Addr} {elt iter : Expr} {x : Str} {px p pos gpos : Pos} {sc : Scope} {te : TE} {k : Nat}
theorem pe_anyL (hr : Room k X.A) (hg : Gl X "any") (hm : X.mg "any" = none) (TB : TabB X.base X.mg c P) (hcode : X.env.code = .ref c) (S : Gsc X sc x) (hi : PE X iter te) (hs : ∀ v, genFold iter X.env v = pure v)
    (he : starEach [.GeneratorExp elt [⟨.Name x px, iter, [], 0⟩] sc gpos] X.env = (false, eval (.GeneratorExp elt [⟨.Name x px, iter, [], 0⟩] sc gpos) X.env) :: starEach [] X.env := by rfl) :
    PE X (.Call (.Name "any" p) [.GeneratorExp elt [⟨.Name x px, iter, [], 0⟩] sc gpos] [] pos) (tGenL X P x sc elt anyTo te) := by
  refine ⟨fun pins s σ H Q I h => wpAny_Call_Name_kw (ld_blt I hg hm boot_any (PyProof.Rows.callWith_builtin1 ?_ he (by rfl)))⟩
  rw [he]
  refine Calls.spliced_cons (gen_list (R := fun n tr H1 => ∀ H2, Tabbed P H1 H2 → Q (.bl (anyTo n tr)) H2) hr TB hcode (S.gens I.ok) hi hs I h fun n tr H1 g s5 hR ⟨fp, wr, G, F, sq, W, h0, tt, aft⟩ => Calls.spliced_nil ?_)
  refine call_any_walkS (W.self 0 _ _ _ h0 ⟨g, fp, wr, G, _, F, sq, _, rfl, W, h0, tt, fun s' mv => ?_⟩)
  obtain ⟨H2, T, J⟩ := aft s' mv
  exact ⟨.bl _, H2, J, rfl, hR H2 T⟩
theorem pe_allL (hr : Room k X.A) (hg : Gl X "all") (hm : X.mg "all" = none) (TB : TabB X.base X.mg c P) (hcode : X.env.code = .ref c) (S : Gsc X sc x) (hi : PE X iter te) (hs : ∀ v, genFold iter X.env v = pure v)
    (he : starEach [.GeneratorExp elt [⟨.Name x px, iter, [], 0⟩] sc gpos] X.env = (false, eval (.GeneratorExp elt [⟨.Name x px, iter, [], 0⟩] sc gpos) X.env) :: starEach [] X.env := by rfl) :
    PE X (.Call (.Name "all" p) [.GeneratorExp elt [⟨.Name x px, iter, [], 0⟩] sc gpos] [] pos) (tGenL X P x sc elt allTo te) := by
  refine ⟨fun pins s σ H Q I h => wpAny_Call_Name_kw (ld_blt I hg hm (by decide +kernel : bootBuiltins "all" = some (.builtin "all")) (PyProof.Rows.callWith_builtin1 ?_ he (by rfl)))⟩
  rw [he]
  refine Calls.spliced_cons (gen_list (R := fun n tr H1 => ∀ H2, Tabbed P H1 H2 → Q (.bl (allTo n tr)) H2) hr TB hcode (S.gens I.ok) hi hs I h fun n tr H1 g s5 hR ⟨fp, wr, G, F, sq, W, h0, tt, aft⟩ => Calls.spliced_nil ?_)
  refine call_all_walkS (W.self 0 _ _ _ h0 ⟨g, fp, wr, G, _, F, sq, _, rfl, W, h0, tt, fun s' mv => ?_⟩)
  obtain ⟨H2, T, J⟩ := aft s' mv
  exact ⟨.bl _, H2, J, rfl, hR H2 T⟩
end
end
end LE
-- GN
/-! any and all of a generator expression: whatever a for may walk, whatever target, the element by any judgement (it may call defs) -/
namespace GN
open PySem PySem.Spec PyProof.Rows L2 GenW
open GxR (TabB TabG Tabbed)
/-- the context in which such an element is reckoned; the expression's frame was made at s, over the around A -/
abbrev inGen (X : Cx) (s : Shared) (H : Hp) (A : Around) (ce : Env) (fp : List Addr) : Cx :=
  { X with s_0 := s, H_0 := H, env := ce, outer := X.stack, stack := ce :: X.stack, A := A.deeper ce, ex := fp, fn := fun _ => false, calm := true, pn := [], xe := fun _ _ => False }
/-- the names: the expression's own ones with their slots, or captured ones; none that a further one captures -/
structure NmOk (N : List Str) (ds sc : Scope) (own : List (Str × Nat)) : Prop where
  blk : BlkOk N ds sc own
  co : sc.isCoroutine = false
  cell : ∀ y ∈ sc.names, y.2 ≠ .cell
  dot : sc.names.lookup (".0" : Str) = some NameKind.local
theorem nmOk_by {N : List Str} {ds sc : Scope} {own : List (Str × Nat)} (b : BlkOk N ds sc own) (c : sc.isCoroutine = false := by rfl) (d : ∀ y ∈ sc.names, y.2 ≠ .cell := by decide +kernel) (e : sc.names.lookup (".0" : Str) = some NameKind.local := by decide +kernel) : NmOk N ds sc own := ⟨b, c, d, e⟩
section
variable {X : Cx} {pins : List (Addr × Obj)} {σ : L2.St} {H : Hp} {s s5 : Shared}
/-- only the table of generators, the marks and the count of texts are others -/
theorem inv_gens {s' : Shared} (I : Inv X pins σ H s) (ho : s'.os = s.os) (hh : s'.heap = s.heap) (hb : AllBare s'.gens) : Inv X pins σ H s' := by
  obtain ⟨a1, a2, a3, a4, a5, a6, a7, a8, a9, b1, b2⟩ := I
  refine ⟨a1, ho.trans a2, hb, ?_, ?_, ?_, a7, a8, ?_, ?_, b2⟩ <;> rw [hh] <;> assumption
theorem gen_start {sc : Scope} {own : List (Str × Nat)} {fp : List Addr} {A : Around} {code : Value} {m : Str → Option Value} (I : Inv X pins σ H s) (ok : NmOk X.N X.env.scope sc own) (hN : X.N.Nodup)
    (hfp : ∀ b ∈ fp, FpOk X pins H b ∧ b < s.heap.objs.size) (fr : A.frames = some X.stack) (hd : A.handled = none) (ho : s5.os = s.os) (hb : AllBare s5.gens)
    (kp : ∀ b o, s.heap.get? b = some o → s5.heap.get? b = some o) (ns : s5.heap.Ns s.heap.objs.size m) :
    Inv (inGen X s H A (genEnv sc (cloFrom X.env.cells sc.names []) s.heap.objs.size code builtinsNs X.env) fp) [] (wipe σ (own.map (·.2))) H s5 := by
  have hfree : ∀ y ∈ sc.names, y.2 = .free → ∃ c, X.env.cells.lookup y.1 = some c := fun y hy e => I.ok.has _ (ok.blk.free y hy e)
  have cm : ∀ {y c}, (cloFrom X.env.cells sc.names []).lookup y = some c → X.env.cells.lookup y = some c ∧ c < s.heap.objs.size := fun {y c} e => by
    rcases cloFrom_mem (PySem.mem_of_lookup e) with hm | ⟨h1, rfl⟩
    · cases hm
    · obtain ⟨c, hc⟩ := hfree _ h1 rfl
      rw [hc]
      obtain ⟨w, z⟩ := I.cell _ _ hc
      exact ⟨rfl, z.lt⟩
  have look : ∀ {y}, sc.names.lookup y = some .free → ∃ c, (cloFrom X.env.cells sc.names []).lookup y = some c ∧ X.env.cells.lookup y = some c := fun {y} hl => by
    obtain ⟨c', e'⟩ := mem_lookup (cloFrom_has (cells := X.env.cells) (acc := []) (PySem.mem_of_lookup hl))
    exact ⟨c', e', (cm e').1⟩
  have okG : (inGen X s H A (genEnv sc (cloFrom X.env.cells sc.names []) s.heap.objs.size code builtinsNs X.env) fp).Ok := by
    refine ⟨I.ok.mod, ok.blk.kind, I.ok.glob, rfl, Nat.le_refl _, fun y z c e1 e2 => I.ok.inj y z c (cm e1).1 (cm e2).1, fun y hy => ?_, fun y c z _ => absurd z Bool.false_ne_true, fun _ => hd, Around.frames_deeper fr, .inr ⟨rfl, rfl⟩,
      fun b hb => ⟨Nat.ne_of_lt (hfp b hb).2, fun y c e z => (hfp b hb).1.2.2.2.2.1 y c (cm e).1 z⟩, I.bs, Nat.le_trans I.ok.bsz I.sz, fun b o e hb => ?_, fun b hb z => ?_, I.stack, I.stkFree⟩
    · have hy' : sc.names.lookup y = some .cell ∨ sc.names.lookup y = some .free := hy
      rcases hy' with hy' | hy'
      · exact absurd rfl (ok.cell _ (PySem.mem_of_lookup hy'))
      · obtain ⟨c, h1, _⟩ := look hy'
        exact ⟨c, h1⟩
    · rcases (hfp b hb).1.2.2.2.1 with z | z
      · exact I.ok.noex b o e z
      · exact absurd (Nat.lt_of_lt_of_le (Heap.lt_size e) (Nat.le_trans I.ok.bsz z)) (Nat.lt_irrefl _)
    · rcases List.mem_cons.mp (I.stkSub b z) with z | z
      · exact (hfp b hb).1.2.1 z
      · exact (hfp b hb).1.2.2.1 z
  refine ⟨okG, ho, hb, Un.kept kp, ⟨m, ns, fun i y v e1 e2 e3 => ?_⟩, fun y c e => ?_, I.hok.fresh (Nat.le_refl _), fun y c e => I.freeC y c (cm e).1, fun p hp => absurd (show p ∈ ([] : List (Addr × Obj)) ++ [] from hp) (by simp), I.hok.kept kp, by rw [wipe_length]; exact I.len⟩
  · obtain ⟨e2, hne⟩ := wipe_some e2
    have e3 : Vis sc y := e3
    have fr : sc.names.lookup y = some .free := by
      rcases e3 with e | e | e
      · rcases ok.blk.own _ (PySem.mem_of_lookup e) (.inl rfl) with e' | e'
        · obtain ⟨p, hp, hpy⟩ := List.mem_map.mp e'
          have e5 := ok.blk.ix p hp
          have : p.1 = y := hpy
          rw [this] at e5
          exact absurd (List.mem_map.mpr ⟨p, hp, nodup_ix hN e5 e1⟩) hne
        · exact absurd (List.mem_of_getElem? e1) e'
      · exact absurd rfl (ok.cell _ (PySem.mem_of_lookup e))
      · exact e
    obtain ⟨m1, _, hl⟩ := I.loc
    have hvis : Vis X.env.scope y := .inr (ok.blk.free _ (PySem.mem_of_lookup fr) rfl)
    obtain ⟨w, r, q⟩ := hl i y v e1 e2 hvis
    obtain ⟨c, h1, h2⟩ := look fr
    refine ⟨w, r, .inr ⟨.inr fr, c, h1, ?_⟩⟩
    rcases q with ⟨k, _⟩ | ⟨_, c', e', z⟩
    · have k : X.env.scope.names.lookup y = some .local := k
      rcases ok.blk.free _ (PySem.mem_of_lookup fr) rfl with k' | k' <;> rw [show X.env.scope.names.lookup y = _ from k'] at k <;> cases k
    · rw [h2] at e'
      cases e'
      exact z.keeps kp
  · obtain ⟨w, z⟩ := I.cell y c (cm e).1
    exact ⟨w, z.keeps kp⟩
end
/-! ### one segment of the generator -/
/-- all goes well as long as W says so; vs: the expression's own slots, forgotten ahead of each turn -/
structure Way (J : It) (g : TG) (te : TE) (stop : Bool) (vs : List Nat) (σ : L2.St) (Q : VK) (W : Nat → Nat → Hp → Prop) : Prop where
  turn : ∀ i m H, W i m H → (J.stop i H ∧ Q (.bl (!stop)) H) ∨ (J.go i H ∧ ∀ x H2, J.yld i H x H2 → g x (wipe σ vs) H2 fun σ2 H3 => wipe σ2 vs = wipe σ vs ∧ te σ2 H3 fun v H4 => ∃ b, v = .bl b ∧ if b = stop then Q (.bl stop) H4 else ∃ m', m' < m ∧ W (i + 1) m' H4)
theorem inv_wipe {X : Cx} {pins : List (Addr × Obj)} {σ : L2.St} {H : Hp} {s : Shared} (vs : List Nat) (I : Inv X pins σ H s) : Inv X pins (wipe σ vs) H s := I.weak (wipe_length σ vs) fun _ _ e => (wipe_some e).1
/-- a state that looks the same to the generator -/
def Like (s s' : Shared) : Prop := s'.os = s.os ∧ s'.heap = s.heap ∧ AllBare s'.gens
def GEnd (Y : Cx) (ps : List (Addr × Obj)) (stop : Bool) (Q : VK) (s : Shared) : Prop := ∃ σ H, Inv Y ps σ H s ∧ Q (.bl (!stop)) H
def GPro (Y : Cx) (ps : List (Addr × Obj)) (stop : Bool) (Q : VK) : Protocol := fun _ _ v s kap =>
  ∃ b σ H, v = Value.bool b ∧ Inv Y ps σ H s ∧ if b = stop then Q (.bl stop) H else ∀ s', Like s s' → kap (.send .none) s'
theorem over_gen {A : Around} {elt tg iter : Expr} {ifs : List Expr} {sc : Scope} {pos : Pos} {it acc : Value} {ce : Env} : A.over (.compLoop (.GeneratorExp elt [⟨tg, iter, ifs, 0⟩] sc pos) 0 it acc ce) [] = A.deeper ce := by
  first
    | rfl
    | (obtain ⟨hd, d, fr, gs, u⟩ := A; simp [Around.over, Around.deeper, marksOver, frameCount, unitsOf, envsOf, guardsOf, pushEnvs, pushGuards, Code.envs, Code.env?, Code.isFrame, Code.guards, Code.isGuard, Code.weight, Code.frames, Code.isCreation, Code.isCaller, Code.cUnits])
theorem over_gen0 {A : Around} {elt tg iter : Expr} {ifs : List Expr} {sc : Scope} {pos : Pos} {it acc : Value} {ce : Env} : A.over (.compStart (.GeneratorExp elt [⟨tg, iter, ifs, 0⟩] sc pos) 0 it acc ce) [] = A.deeper ce := by
  first
    | rfl
    | (obtain ⟨hd, d, fr, gs, u⟩ := A; simp [Around.over, Around.deeper, marksOver, frameCount, unitsOf, envsOf, guardsOf, pushEnvs, pushGuards, Code.envs, Code.env?, Code.isFrame, Code.guards, Code.isGuard, Code.weight, Code.frames, Code.isCreation, Code.isCaller, Code.cUnits])
section
variable {Y : Cx} {A : Around} {ps : List (Addr × Obj)} {elt tg iter : Expr} {sc : Scope} {pos : Pos} {it : Addr} {fp : List Addr} {tn : Nat → Heap → Prop} {J : It} {g : TG} {te : TE} {stop : Bool} {Q : VK} {W : Nat → Nat → Hp → Prop} {vs : List Nat} {σ₀ : L2.St}
abbrev Rg (Y : Cx) (ps : List (Addr × Obj)) (stop : Bool) (Q : VK) : GenEnd := fun n s₀ r s₁ => r = .ok .next ∧ (fun (_ : Nat) (_ s : Shared) => GEnd Y ps stop Q s) n s₀ s₁
theorem seg_turns (hA : A.deeper Y.env = Y.A) (hx : ∀ e s, ¬ Y.xe e s) (hc : Y.calm = true) (hco : Y.env.scope.isCoroutine = false) (T : Turn Y.prog Y.w Y.K tg J fp it tn) (hg : PG Y tg g) (he : PE Y elt te) (hW : Way J g te stop vs σ₀ Q W)
    (fo : ∀ (H : Hp), (∀ b ∈ fp, H b = none) → ∀ b ∈ fp, FpOk Y ps H b) :
    ∀ (m n i : Nat) (H : Hp) (s₀ s : Shared), m < n → W i m H → Inv Y ps (wipe σ₀ vs) H s → tn i s.heap → (∀ b ∈ fp, H b = none) →
      Seg (model Y.prog Y.w) A (Rg Y ps stop Q) (GPro Y ps stop Q) n s₀ (.compLoop (.GeneratorExp elt [⟨tg, iter, [], 0⟩] sc pos) 0 (.ref it) .none Y.env)
        ((model Y.prog Y.w).den (.compLoop (.GeneratorExp elt [⟨tg, iter, [], 0⟩] sc pos) 0 (.ref it) .none Y.env)) [] s := by
  intro m
  induction m using Nat.strongRecOn with
  | ind m ih =>
    intro n i H s₀ s hmn hw I st fr
    generalize hσ : wipe σ₀ vs = σ at I
    have oA : A.over (.compLoop (.GeneratorExp elt [⟨tg, iter, [], 0⟩] sc pos) 0 (.ref it) .none Y.env) [] = Y.A := over_gen.trans hA
    show Seg _ A _ _ _ s₀ _ ((compTurn (.GeneratorExp elt [⟨tg, iter, [], 0⟩] sc pos) 0 (.ref it) .none Y.env).onRaise (leaving Y.env)) [] s
    rw [compTurn_gen, Sem.onRaise_eq_wrap]
    refine seg_bind_wrap (wpAny_standAt ?_)
    rcases hW.turn i m H hw with ⟨hs, q⟩ | ⟨hgo, step⟩
    · refine seg_bind_wrap ?_
      rw [oA]
      refine thn (T.done Y rfl rfl rfl hc i ps s σ H _ I (fo H fr) st hs) fun r s1 ⟨er, I1⟩ => ?_
      subst er
      exact seg_end (.ok .next) ⟨rfl, σ, H, I1, q⟩
    · refine seg_bind_wrap ?_
      rw [oA]
      refine thn (T.item Y rfl rfl rfl hc i ps s σ H _ I (fo H fr) st hgo) fun r s1 ⟨u, er, h1⟩ => ?_
      subst er
      refine seg_bind_wrap ?_
      rw [oA]
      refine thn h1 fun _ s2 ⟨x, H2, I2, rx, hy, st2, fr2⟩ => ?_
      have I2' := I2.pinned (fo H2 fr2) (T.obj _ _ st2)
      refine seg_bind_wrap ?_
      rw [oA]
      refine wpAny_mono (hg.run _ s2 σ H2 x u _ I2' rx (by have q := step x H2 hy; rw [hσ] at q; exact q)) (fun _ s3 h3 => ?_) fun e s' z => absurd z (hx e s')
      obtain ⟨σ3, H3, I3, hw3, q3⟩ := h3
      refine seg_bind_wrap ?_
      rw [oA]
      refine wpAny_tests_nil ?_
      obtain ⟨n, rfl⟩ : ∃ k, n = k + 1 := ⟨n - 1, by omega⟩
      simp only [if_true]
      have hy : ∀ v, yieldOut Y.env v = yieldValue v := fun v => by simp only [yieldOut, hco, Bool.false_eq_true, if_false]
      simp only [hy]
      rw [Sem.bind_eq_wrap', Sem.bind_eq_wrap', Sem.wrap_wrap, Sem.wrap_wrap]
      refine seg_wrap ?_
      rw [oA]
      refine wpAny_mono (he.run _ s3 σ3 H3 _ I3 q3) (fun y s4 h4 => ?_) fun e s' z => absurd z (hx e s')
      obtain ⟨v, H4, I4, ry, b, ev, q4⟩ := h4
      subst ev
      cases (show y = Value.bool b from ry)
      have st4 : tn (i + 1) s4.heap := T.keep _ _ _ st2 fun c hc o e => (I4.pin (c, o) (List.mem_append_right _ (List.mem_append_right _ (mem_pinsAt hc e)))).1
      have fr4 : ∀ c ∈ fp, H4 c = none := fun c hc => by
        obtain ⟨o, e, _⟩ := T.obj _ _ st2 c hc
        exact (I4.pin (c, o) (List.mem_append_right _ (List.mem_append_right _ (mem_pinsAt hc e)))).2.1
      refine seg_at (seg_yield rfl rfl rfl ⟨b, σ3, H4, rfl, I4.unpinned, ?_⟩)
      by_cases hb : b = stop
      · rw [if_pos hb] at q4 ⊢
        exact q4
      · rw [if_neg hb] at q4 ⊢
        obtain ⟨m', hm, w4⟩ := q4
        intro s5 lk
        refine seg_again rfl (ih m' hm n (i + 1) H4 s5 s5 (by omega) w4 (inv_gens (by rw [hσ, ← hw3]; exact inv_wipe vs I4.unpinned) lk.1 lk.2.1 lk.2.2) ?_ fr4)
        rw [lk.2.1]
        exact st4
theorem seg_first (hA : A.deeper Y.env = Y.A) (hx : ∀ e s, ¬ Y.xe e s) (hc : Y.calm = true) (hco : Y.env.scope.isCoroutine = false) (T : Turn Y.prog Y.w Y.K tg J fp it tn) (hg : PG Y tg g) (he : PE Y elt te) (hW : Way J g te stop vs σ₀ Q W)
    (fo : ∀ (H : Hp), (∀ b ∈ fp, H b = none) → ∀ b ∈ fp, FpOk Y ps H b) {m n : Nat} {H : Hp} {s₀ s : Shared} (hmn : m < n) (hw : W 0 m H) (I : Inv Y ps (wipe σ₀ vs) H s) (st : tn 0 s.heap) (fr : ∀ b ∈ fp, H b = none) :
    Seg (model Y.prog Y.w) A (Rg Y ps stop Q) (GPro Y ps stop Q) n s₀ (.compStart (.GeneratorExp elt [⟨tg, iter, [], 0⟩] sc pos) 0 (.ref it) .none Y.env)
        ((model Y.prog Y.w).den (.compStart (.GeneratorExp elt [⟨tg, iter, [], 0⟩] sc pos) 0 (.ref it) .none Y.env)) [] s := by
  have loop := seg_turns (iter := iter) (sc := sc) (pos := pos) hA hx hc hco T hg he hW fo m n 0 H s₀ s hmn hw I st fr
  show Seg _ A _ _ _ s₀ _ ((compStart (.GeneratorExp elt [⟨tg, iter, [], 0⟩] sc pos) 0 (.ref it) .none Y.env).onRaise (leaving Y.env)) [] s
  unfold compStart
  rw [Sem.onRaise_eq_wrap]
  show Seg _ A _ _ _ s₀ _ ((ask >>= _).wrap _ _ _ _) [] s
  refine seg_bind_wrap (wpAny_askSetting ?_)
  split
  · exact seg_again rfl loop
  · first
      | exact seg_bind_wrap (wpAny_rule (seg_bind_wrap (wpAny_standAt (seg_bind_wrap (T.self _ 0 s _ _ st (seg_again rfl loop))))))
      | (refine seg_bind_wrap (wpAny_rule ?_); show Seg _ A _ _ _ s₀ _ ((standAt iter.pos >>= _).wrap _ _ _ _) [] s; exact seg_bind_wrap (wpAny_standAt (seg_bind_wrap (T.self _ 0 s _ _ st (seg_again rfl loop)))))
end
/-! ### what consumes it -/
/-- the generator sleeps, n wakings at most are left -/
def Ready (Y : Cx) (A : Around) (ps : List (Addr × Obj)) (g : Nat) (stop : Bool) (Q : VK) (n : Nat) (s : Shared) : Prop :=
  (∃ (σ : L2.St) (H : Hp), Inv Y ps σ H s) ∧ ∃ gs, s.gens[g]? = some gs ∧ ∀ s', Like s s' → gs.Goes (model Y.prog Y.w) A (Rg Y ps stop Q) (GPro Y ps stop Q) n (.send .none) s'
/-- what a waking hands out -/
def Woke (Y : Cx) (A : Around) (ps : List (Addr × Obj)) (g : Nat) (stop : Bool) (Q : VK) (n : Nat) (r : Option Value) (s : Shared) : Prop :=
  match r with
  | none => GEnd Y ps stop Q s
  | some v => ∃ b, v = Value.bool b ∧ if b = stop then ∃ σ H, Inv Y ps σ H s ∧ Q (.bl stop) H else ∃ k, k < n ∧ Ready Y A ps g stop Q k s
theorem bare_set {gens : Array GenState} {g : Nat} {x : GenState} (h : AllBare gens) (hx : x.bare = true) : AllBare (gens.setIfInBounds g x) := fun y hy => by
  rcases Array.mem_or_eq_of_mem_setIfInBounds hy with z | z
  · exact h y z
  · rw [z]
    exact hx
theorem set_there {s : Shared} {g : Nat} {x : GenState} (h : g + 1 ≤ (s.setGen g x).gens.size) : (s.setGen g x).gens[g]? = some x := by
  rw [setGen_size] at h
  have : g < s.gens.size := h
  simp [Shared.setGen, this]
section
variable {Y : Cx} {A : Around} {ps : List (Addr × Obj)} {a : Addr} {ao : Obj} {g : Nat} {stop : Bool} {Q : VK}
theorem woken {n : Nat} {s : Shared} {E : Value → Shared → Prop} (hh : A.handled = none) (hroom : A.depth < recursionLimit) (ha : (a, ao) ∈ ps) (hao : ∃ nm qn, ao.cls = .type "generator" ∧ ao.data = .fields #[.int g 0, nm, qn] ∧ ao.slots = #[])
    (h : Ready Y A.in1 ps g stop Q n s) : wpAny (model Y.prog Y.w) A (pyNext (.ref a)) (Woke Y A.in1 ps g stop Q n) E s := by
  obtain ⟨⟨σ, H, I⟩, gs, hgs, go⟩ := h
  obtain ⟨nm, qn, c1, c2, c3⟩ := hao
  have ge : s.heap.IsGen a g := ⟨ao, nm, qn, (I.pin (a, ao) (List.mem_append_right _ ha)).1, c1, c2, c3⟩
  have glt : g + 1 ≤ s.gens.size := by
    obtain ⟨z, _⟩ := Array.getElem?_eq_some_iff.mp hgs
    exact z
  have b0 : AllBare (s.setGen g .running).gens := bare_set I.bare rfl
  refine wpAny_gsz glt (wpAny_mono (wpAny_pyNext_genexpQ (P := fun _ _ s => GEnd Y ps stop Q s) hh I.nolimit hroom ge hgs (go _ ⟨rfl, rfl, b0⟩) (fun v s1 gs' hb hv => ?_) (fun s1 hp h' hk => ?_)) (fun r s' z => z) fun e s' (z : False) => False.elim z)
  · intro hsz
    obtain ⟨b, σ1, H1, rfl, I1, q⟩ := hv
    have b1 : AllBare (s1.setGen g gs').gens := bare_set I1.bare hb
    have I2 : Inv Y ps σ1 H1 (s1.setGen g gs') := inv_gens I1 rfl rfl b1
    refine ⟨b, rfl, ?_⟩
    by_cases e : b = stop
    · rw [if_pos e] at q ⊢
      exact ⟨σ1, H1, I2, q⟩
    · rw [if_neg e] at q ⊢
      cases n with
      | zero => exact (q s1 ⟨rfl, rfl, I1.bare⟩).elim
      | succ k => exact ⟨k, Nat.lt_succ_self k, ⟨σ1, H1, I2⟩, gs', set_there hsz, fun s' lk => q s' ⟨lk.1, lk.2.1, lk.2.2⟩⟩
  · intro _
    obtain ⟨σ1, H1, I1, q⟩ := hp
    have I2 : Inv Y ps σ1 H1 { s1 with heap := h', toks := s1.toks } := I1.kept hk
    exact ⟨σ1, H1, inv_gens I2 rfl rfl (bare_set I1.bare rfl), q⟩
/-- how the builtin ends -/
def Told (Y : Cx) (ps : List (Addr × Obj)) (Q : VK) (r : Result) (s : Shared) : Prop := ∃ b σ H, r = .ok (.ret (.bool b)) ∧ Inv Y ps σ H s ∧ Q (.bl b) H
theorem loop_all (hh : A.handled = none) (hroom : A.depth < recursionLimit) (ha : (a, ao) ∈ ps) (hao : ∃ nm qn, ao.cls = .type "generator" ∧ ao.data = .fields #[.int g 0, nm, qn] ∧ ao.slots = #[]) :
    ∀ (n : Nat) (s : Shared), Ready Y A.in1.in1 ps g false Q n s → codeAny (model Y.prog Y.w) A (.builtin "all.loop" ⟨[.ref a], []⟩) (Told Y ps Q) s := by
  intro n
  induction n using Nat.strongRecOn with
  | ind n ih =>
    intro s h
    refine codeAny_builtin F.entry_all_loop ?_
    rw [Around.under_plainId F.plain_all_loop _]
    show wpAny _ A.in1 (pyNext (.ref a) >>= _) _ _ s
    refine wpAny_bind (wpAny_mono (woken (A := A.in1) hh hroom ha hao h) (fun r s' w => ?_) fun _ _ z => z)
    cases r with
    | none =>
      obtain ⟨σ, H, I, q⟩ := w
      exact wpAny_bind (wpAny_rule (wpAny_pure ⟨true, σ, H, rfl, I, q⟩))
    | some v =>
      obtain ⟨b, rfl, w⟩ := w
      refine wpAny_bind (wpAny_holding (wpAny_truthy_bool ?_))
      refine wpAny_bind (wpAny_letGo ?_)
      cases b with
      | true =>
        rw [if_neg (by decide)] at w
        obtain ⟨k, hk, w⟩ := w
        simp only [if_true]
        exact wpAny_pure ⟨plainId_quiet F.plain_all_loop _, ih k hk s' w⟩
      | false =>
        rw [if_pos rfl] at w
        obtain ⟨σ, H, I, q⟩ := w
        simp only [Bool.false_eq_true, if_false]
        exact wpAny_bind (wpAny_rule (wpAny_pure ⟨false, σ, H, rfl, I, q⟩))
theorem loop_any (hh : A.handled = none) (hroom : A.depth < recursionLimit) (ha : (a, ao) ∈ ps) (hao : ∃ nm qn, ao.cls = .type "generator" ∧ ao.data = .fields #[.int g 0, nm, qn] ∧ ao.slots = #[]) :
    ∀ (n : Nat) (s : Shared), Ready Y A.in1.in1 ps g true Q n s → codeAny (model Y.prog Y.w) A (.builtin "any.loop" ⟨[.ref a], []⟩) (Told Y ps Q) s := by
  intro n
  induction n using Nat.strongRecOn with
  | ind n ih =>
    intro s h
    refine codeAny_builtin F.entry_any_loop ?_
    rw [Around.under_plainId F.plain_any_loop _]
    show wpAny _ A.in1 (pyNext (.ref a) >>= _) _ _ s
    refine wpAny_bind (wpAny_mono (woken (A := A.in1) hh hroom ha hao h) (fun r s' w => ?_) fun _ _ z => z)
    cases r with
    | none =>
      obtain ⟨σ, H, I, q⟩ := w
      exact wpAny_bind (wpAny_rule (wpAny_pure ⟨false, σ, H, rfl, I, q⟩))
    | some v =>
      obtain ⟨b, rfl, w⟩ := w
      refine wpAny_bind (wpAny_holding (wpAny_truthy_bool ?_))
      refine wpAny_bind (wpAny_letGo ?_)
      cases b with
      | false =>
        rw [if_neg (by decide)] at w
        obtain ⟨k, hk, w⟩ := w
        simp only [Bool.false_eq_true, if_false]
        exact wpAny_pure ⟨plainId_quiet F.plain_any_loop _, ih k hk s' w⟩
      | true =>
        rw [if_pos rfl] at w
        obtain ⟨σ, H, I, q⟩ := w
        simp only [if_true]
        exact wpAny_bind (wpAny_rule (wpAny_pure ⟨true, σ, H, rfl, I, q⟩))
end
/-! ### its making -/
/-- .. over iter, P the def's own table of code -/
def tGn (P : Addr) (own : List Nat) (stop : Bool) (wi : TI) (g : TG) (te : TE) : TE := fun σ H Q => wi σ H fun J H1 => TabG H1 P ∧ ∃ W : Nat → Nat → Hp → Prop, (∀ H2, Tabbed P H1 H2 → ∃ m, W 0 m H2) ∧ Way J g te stop own σ Q W
/-- it is made, nothing has been woken -/
def Fresh (X : Cx) (pins : List (Addr × Obj)) (σ : L2.St) (stop : Bool) (Q : VK) (a : Addr) (s : Shared) : Prop :=
  ∃ (Y : Cx) (ao : Obj) (g n : Nat), Y.prog = X.prog ∧ Y.w = X.w ∧ (∃ nm qn, ao.cls = .type "generator" ∧ ao.data = .fields #[.int g 0, nm, qn] ∧ ao.slots = #[]) ∧ Ready Y X.A.in1.in1 [(a, ao)] g stop Q n s ∧
    ∀ σ' H' s', Inv Y [(a, ao)] σ' H' s' → Inv X pins σ H' s'
section
variable {X : Cx} {pins : List (Addr × Obj)} {σ : L2.St} {H : Hp} {s : Shared} {c P : Addr} {elt tg iter : Expr} {sc : Scope} {own : List (Str × Nat)} {wi : TI} {g : TG} {te : TE} {k : Nat} {stop : Bool} {gpos : Pos}
theorem gen_made {Q : VK} {Q' : Value → Shared → Prop} (hr : Room (k + 1) X.A) (hN : X.N.Nodup) (TB : TabB X.base X.mg c P) (hcode : X.env.code = .ref c) (ok : NmOk X.N X.env.scope sc own) (hi : PI X tg iter wi) (hs : ∀ v, genFold iter X.env v = pure v)
    (hg : ∀ (s : Shared) (H : Hp) (A : Around) (C : Addr) (cd : Value) (fp : List Addr), PG (inGen X s H A (genEnv sc (cloFrom X.env.cells sc.names []) C cd builtinsNs X.env) fp) tg g)
    (he : ∀ (s : Shared) (H : Hp) (A : Around) (C : Addr) (cd : Value) (fp : List Addr), Room k (A.deeper (genEnv sc (cloFrom X.env.cells sc.names []) C cd builtinsNs X.env)) → A.guards = X.A.guards → PE (inGen X s H A (genEnv sc (cloFrom X.env.cells sc.names []) C cd builtinsNs X.env) fp) elt te)
    (I : Inv X pins σ H s) (h : tGn P (own.map (·.2)) stop wi g te σ H Q) (hQ : ∀ a s', Fresh X pins σ stop Q a s' → Q' (.ref a) s') :
    wpAny (model X.prog X.w) X.A (eval (.GeneratorExp elt [⟨tg, iter, [], 0⟩] sc gpos) X.env) Q' X.xe s := by
  have hfree : ∀ y ∈ sc.names, y.2 = .free → ∃ c, X.env.cells.lookup y.1 = some c := fun y hy e => I.ok.has _ (ok.blk.free y hy e)
  refine wpAny_GeneratorExp_make ok.co (closure_ok hfree) ok.cell ok.dot ok.blk.kind (by have := hr.dp; omega) ?_ hs
  refine thn (hi.run pins s σ H _ I h) fun xv s1 hx => thn hx fun itv s2 h2 => ?_
  obtain ⟨it, fp, tn, J, H2, rfl, I2, T, st2, f2, ⟨qs, hP, ht⟩, W, w0, way⟩ := h2
  have oP : s2.heap.get? P = some { cls := .none, data := .fields qs } := I2.hok P _ hP
  have nP : ∀ b ∈ fp, b ≠ P := fun b hb z => by
    have := (f2 b hb).1
    rw [z, hP] at this
    cases this
  refine ⟨I2.nolimit, LE.code_step (ps := qs) hcode (TB.code.keeps I2.bk) oP ht fun code h3 tk more ex ge hP3 ht3 => ?_⟩
  have I4 : Inv X pins σ (upd H2 P (.tbl (qs ++ more))) { s2 with heap := h3, toks := tk } := GxR.inv_tab (g' := s2.gens) (d' := s2.drawn) (t' := tk) I2 hP (fun b o n e => ex b o n e) hP3 I2.bare
  have tab : Tabbed P H2 (upd H2 P (.tbl (qs ++ more))) := ⟨⟨_, upd_same, ht3⟩, fun b n => upd_ne n⟩
  have st4 : tn 0 h3 := T.keep _ _ _ st2 fun b hb o e => ex b o (nP b hb) e
  have f4 : ∀ b ∈ fp, FpOk X pins (upd H2 P (.tbl (qs ++ more))) b := fun b hb => ⟨by rw [upd_ne (nP b hb)]; exact (f2 b hb).1, (f2 b hb).2⟩
  have lt4 : ∀ b ∈ fp, b < h3.objs.size := fun b hb => by
    obtain ⟨o, e, _⟩ := T.obj _ _ st4 b hb
    exact Heap.lt_size e
  obtain ⟨m0, w0⟩ := w0 _ tab
  generalize hH4 : upd H2 P (.tbl (qs ++ more)) = H4 at I4 tab f4 w0
  generalize hs4 : ({ s2 with heap := h3, toks := tk } : Shared) = s4 at I4
  have e4 : s4.heap = h3 := by rw [← hs4]
  rw [← e4] at st4 lt4
  obtain ⟨bm, ob, e1, e2, e3, e4', e5, e6, e7, e8⟩ := TB.bm
  refine wpAny_builtinsFor (m := X.mg) (by rw [I4.ok.glob]; exact I4.mod.glob.keeps I4.bk) e1 e2 (I4.bk _ _ e5) e6 e7 e8 ?_
  intro h' hn' hs'
  have hsz : h'.objs.size = s4.heap.objs.size + 1 := by rw [hs'.1, Heap.size_push]
  have keep' : ∀ b o, s4.heap.get? b = some o → h'.get? b = some o := fun b o e => hs'.extBut b o (Nat.ne_of_lt (Heap.lt_size e)) (Heap.get?_push_of_some _ e)
  generalize hce : genEnv sc (cloFrom X.env.cells sc.names []) s4.heap.objs.size code builtinsNs X.env = ce
  generalize hs5 : ({ s4 with gens := s4.gens.push (.fresh (.compStart (.GeneratorExp elt [⟨tg, iter, [], 0⟩] sc gpos) 0 (.ref it) .none ce)), toks := s4.toks + 1 + 1 + 1, heap := h'.push { cls := .type "generator", data := .fields #[.int s4.gens.size 0, .str "<genexpr>" (s4.toks + 1), .str (X.env.qual ++ "<genexpr>") (s4.toks + 1 + 1)] } } : Shared) = s5
  have h5 : s5.heap = h'.push { cls := .type "generator", data := .fields #[.int s4.gens.size 0, .str "<genexpr>" (s4.toks + 1), .str (X.env.qual ++ "<genexpr>") (s4.toks + 1 + 1)] } := by rw [← hs5]
  have g5 : s5.gens = s4.gens.push (.fresh (.compStart (.GeneratorExp elt [⟨tg, iter, [], 0⟩] sc gpos) 0 (.ref it) .none ce)) := by rw [← hs5]
  have o5 : s5.os = s4.os := by rw [← hs5]
  have kp : ∀ b o, s4.heap.get? b = some o → s5.heap.get? b = some o := fun b o e => by
    rw [h5]
    exact Heap.get?_push_of_some _ (keep' b o e)
  have hA : X.A.in1.in1.handled = none := hr.hd
  have J5 := gen_start (A := X.A.in1.in1) (code := code) (s5 := s5) (m := fun y => if y = (".0" : Str) then some (.ref it) else none) I4 ok hN (fun b hb => ⟨f4 b hb, lt4 b hb⟩) (show X.A.in1.in1.frames = _ from I4.ok.frames) hA o5
    (by rw [g5]; exact I4.bare.push rfl) kp (by rw [h5]; exact hn'.push _)
  have pg := hg s4 H4 X.A.in1.in1 s4.heap.objs.size code fp
  have pe := he s4 H4 X.A.in1.in1 s4.heap.objs.size code fp ⟨hr.hd, by have := hr.dp; show X.A.depth + 1 + 3 * k + 5 < _; omega, by have := hr.un; show X.A.units + 1 + 1 + 3 + 16 * k + 200 < _; omega⟩ rfl
  rw [hce] at J5 pg pe
  have hcl : ce.locals = s4.heap.objs.size := by rw [← hce]; rfl
  have hcs : ce.scope = sc := by rw [← hce]; rfl
  have hcc : ce.cells = cloFrom X.env.cells sc.names [] := by rw [← hce]; rfl
  have ae : h'.objs.size = s4.heap.objs.size + 1 := hsz
  have fsS : ∀ b ∈ frs X.stack, b < s4.heap.objs.size := fun b hb => by
    rcases List.mem_cons.mp (I4.stkSub b hb) with z | z
    · rw [z]
      exact I4.lt
    · rcases Nat.lt_or_ge b s4.heap.objs.size with y | y
      · exact y
      · exact absurd z (I4.nofs y)
  refine hQ _ _ ⟨inGen X s4 H4 X.A.in1.in1 ce fp, { cls := .type "generator", data := .fields #[.int s4.gens.size 0, .str "<genexpr>" (s4.toks + 1), .str (X.env.qual ++ "<genexpr>") (s4.toks + 1 + 1)] }, s4.gens.size, m0 + 1, rfl, rfl, ⟨_, _, rfl, rfl, rfl⟩, ?_, fun σ' H' s' J' => ?_⟩
  · have J6 : Inv (inGen X s4 H4 X.A.in1.in1 ce fp) [(h'.objs.size, { cls := .type "generator", data := .fields #[.int s4.gens.size 0, .str "<genexpr>" (s4.toks + 1), .str (X.env.qual ++ "<genexpr>") (s4.toks + 1 + 1)] })] (wipe σ (own.map (·.2))) H4 s5 := by
      refine J5.pins_of fun p hp => ?_
      rw [List.mem_singleton.mp hp]
      refine ⟨by rw [h5]; exact Heap.get?_push_size _ rfl, I4.hok.fresh (by rw [ae]; exact Nat.le_succ _), by show h'.objs.size ≠ ce.locals; rw [hcl, ae]; exact Nat.succ_ne_self _, fun z => ?_, fun v z => nomatch z⟩
      have lz : h'.objs.size < s4.heap.objs.size := fsS _ z
      rw [ae] at lz
      exact absurd lz (Nat.not_lt.mpr (Nat.le_succ _))
    refine ⟨⟨_, _, J6⟩, .fresh (.compStart (.GeneratorExp elt [⟨tg, iter, [], 0⟩] sc gpos) 0 (.ref it) .none ce), (by rw [g5]; exact Array.getElem?_push_size ..), fun s6 lk => ⟨rfl, ?_⟩⟩
    refine seg_first (Y := inGen X s4 H4 X.A.in1.in1 ce fp) (A := X.A.in1.in1) (T := T) (W := W) (J := J) rfl (fun _ _ z => z) rfl (by show ce.scope.isCoroutine = false; rw [hcs]; exact ok.co) pg pe way (fun Hx hn b hb => ?_) (Nat.lt_succ_self m0) w0 (inv_gens J6 lk.1 lk.2.1 lk.2.2) (by rw [lk.2.1]; exact T.keep _ _ _ st4 fun b _ o e => kp b o e) fun b hb => (f4 b hb).1
    have lb := lt4 b hb
    refine ⟨hn b hb, by show b ≠ ce.locals; rw [hcl]; exact Nat.ne_of_lt lb, fun z => ?_, .inl hb, fun y cc e z => ?_, fun p hp z => ?_⟩
    · rcases List.mem_cons.mp (I4.stkSub b z) with y | y
      · exact (f4 b hb).2.1 y
      · exact (f4 b hb).2.2.1 y
    · have e : ce.cells.lookup y = some cc := e
      rw [hcc] at e
      rcases cloFrom_mem (PySem.mem_of_lookup e) with hm | ⟨h1, h2⟩
      · cases hm
      · obtain ⟨c2, e2⟩ := hfree _ h1 rfl
        have e2' : X.env.cells.lookup y = some c2 := e2
        rw [e2'] at h2
        exact (f4 b hb).2.2.2.2.1 y c2 e2 (by rw [← z]; exact h2.symm)
    · have hp' : p ∈ [(h'.objs.size, ({ cls := .type "generator", data := .fields #[.int s4.gens.size 0, .str "<genexpr>" (s4.toks + 1), .str (X.env.qual ++ "<genexpr>") (s4.toks + 1 + 1)] } : Obj))] := hp
      rw [List.mem_singleton.mp hp'] at z
      have z' : h'.objs.size = b := z
      rw [← z', ae] at lb
      exact absurd lb (Nat.not_lt.mpr (Nat.le_succ _))
  · refine I4.call' (ch := fp) J'.os J'.base J'.hok J'.bare fun b hb => ?_
    have := f4 b hb
    exact ⟨this.2.2.2.1, this.2.1, this.2.2.2.2.1, this.2.2.2.2.2⟩
section
variable {p pos : Pos}
theorem pe_allG (hr : Room (k + 1) X.A) (hN : X.N.Nodup) (hgl : Gl X "all") (hm : X.mg "all" = none) (TB : TabB X.base X.mg c P) (hcode : X.env.code = .ref c) (ok : NmOk X.N X.env.scope sc own) (hi : PI X tg iter wi)
    (hg : ∀ (s : Shared) (H : Hp) (A : Around) (C : Addr) (cd : Value) (fp : List Addr), PG (inGen X s H A (genEnv sc (cloFrom X.env.cells sc.names []) C cd builtinsNs X.env) fp) tg g)
    (he : ∀ (s : Shared) (H : Hp) (A : Around) (C : Addr) (cd : Value) (fp : List Addr), Room k (A.deeper (genEnv sc (cloFrom X.env.cells sc.names []) C cd builtinsNs X.env)) → A.guards = X.A.guards → PE (inGen X s H A (genEnv sc (cloFrom X.env.cells sc.names []) C cd builtinsNs X.env) fp) elt te)
    (hs : ∀ v, genFold iter X.env v = pure v := by intro _; rfl) (hst : starEach [.GeneratorExp elt [⟨tg, iter, [], 0⟩] sc gpos] X.env = (false, eval (.GeneratorExp elt [⟨tg, iter, [], 0⟩] sc gpos) X.env) :: starEach [] X.env := by rfl) :
    PE X (.Call (.Name "all" p) [.GeneratorExp elt [⟨tg, iter, [], 0⟩] sc gpos] [] pos) (tGn P (own.map (·.2)) false wi g te) := by
  refine ⟨fun pins s σ H Q I h => wpAny_Call_Name_kw (ld_blt I hgl hm (by decide +kernel : bootBuiltins "all" = some (.builtin "all")) (PyProof.Rows.callWith_builtin1 ?_ hst (by rfl)))⟩
  rw [hst]
  refine Calls.spliced_cons (gen_made hr hN TB hcode ok hi hs hg he I h fun a s5 ⟨Y, ao, gn, n, rfl1, rfl2, hao, rd, back⟩ => Calls.spliced_nil ?_)
  refine call_function_tree F.kind_all F.plain_all F.entry_all (F.args_all1 _) ?_
  unfold Builtin.«all»
  refine wpAny_bind (m := oneArg "all" _) (wpAny_pure ?_)
  obtain ⟨nm, qn, c1, c2, c3⟩ := id hao
  obtain ⟨⟨σ6, H6, I6⟩, _⟩ := id rd
  rw [← rfl1, ← rfl2]
  refine wpAny_bind (wpAny_pyIter_gen (g := gn) ⟨ao, nm, qn, (I6.pin (a, ao) (List.mem_append_right _ List.mem_cons_self)).1, c1, c2, c3⟩ ?_)
  refine wpAny_pure ⟨plainId_quiet F.plain_all_loop _, codeAny_mono (loop_all (A := X.A) hr.hd (by have := hr.dp; omega) List.mem_cons_self hao n s5 rd) fun r s' z => ?_⟩
  obtain ⟨b, σ7, H7, rfl, I7, q⟩ := z
  exact ⟨.bl b, H7, back _ _ _ I7, rfl, q⟩
theorem pe_anyG (hr : Room (k + 1) X.A) (hN : X.N.Nodup) (hgl : Gl X "any") (hm : X.mg "any" = none) (TB : TabB X.base X.mg c P) (hcode : X.env.code = .ref c) (ok : NmOk X.N X.env.scope sc own) (hi : PI X tg iter wi)
    (hg : ∀ (s : Shared) (H : Hp) (A : Around) (C : Addr) (cd : Value) (fp : List Addr), PG (inGen X s H A (genEnv sc (cloFrom X.env.cells sc.names []) C cd builtinsNs X.env) fp) tg g)
    (he : ∀ (s : Shared) (H : Hp) (A : Around) (C : Addr) (cd : Value) (fp : List Addr), Room k (A.deeper (genEnv sc (cloFrom X.env.cells sc.names []) C cd builtinsNs X.env)) → A.guards = X.A.guards → PE (inGen X s H A (genEnv sc (cloFrom X.env.cells sc.names []) C cd builtinsNs X.env) fp) elt te)
    (hs : ∀ v, genFold iter X.env v = pure v := by intro _; rfl) (hst : starEach [.GeneratorExp elt [⟨tg, iter, [], 0⟩] sc gpos] X.env = (false, eval (.GeneratorExp elt [⟨tg, iter, [], 0⟩] sc gpos) X.env) :: starEach [] X.env := by rfl) :
    PE X (.Call (.Name "any" p) [.GeneratorExp elt [⟨tg, iter, [], 0⟩] sc gpos] [] pos) (tGn P (own.map (·.2)) true wi g te) := by
  refine ⟨fun pins s σ H Q I h => wpAny_Call_Name_kw (ld_blt I hgl hm boot_any (PyProof.Rows.callWith_builtin1 ?_ hst (by rfl)))⟩
  rw [hst]
  refine Calls.spliced_cons (gen_made hr hN TB hcode ok hi hs hg he I h fun a s5 ⟨Y, ao, gn, n, rfl1, rfl2, hao, rd, back⟩ => Calls.spliced_nil ?_)
  refine call_function_tree F.kind_any F.plain_any F.entry_any (F.args_any1 _) ?_
  unfold Builtin.«any»
  refine wpAny_bind (m := oneArg "any" _) (wpAny_pure ?_)
  obtain ⟨nm, qn, c1, c2, c3⟩ := id hao
  obtain ⟨⟨σ6, H6, I6⟩, _⟩ := id rd
  rw [← rfl1, ← rfl2]
  refine wpAny_bind (wpAny_pyIter_gen (g := gn) ⟨ao, nm, qn, (I6.pin (a, ao) (List.mem_append_right _ List.mem_cons_self)).1, c1, c2, c3⟩ ?_)
  refine wpAny_pure ⟨plainId_quiet F.plain_any_loop _, codeAny_mono (loop_any (A := X.A) hr.hd (by have := hr.dp; omega) List.mem_cons_self hao n s5 rd) fun r s' z => ?_⟩
  obtain ⟨b, σ7, H7, rfl, I7, q⟩ := z
  exact ⟨.bl b, H7, back _ _ _ I7, rfl, q⟩
end
end
/-- over what Walk tells of, by a word of the turn and the heap -/
theorem gn_it {J : It} {n : Nat} {G : Hp → Prop} {Yl : Nat → Hp → V → Hp → Prop} (w : Walk J n G Yl) {P : Addr} {g : TG} {te : TE} {stop : Bool} {vs : List Nat} {σ : L2.St} {H1 : Hp} {Q : VK} (Pv : Nat → Hp → Prop) (h0 : ∀ H2, Tabbed P H1 H2 → Pv 0 H2)
    (hG : ∀ i H, i ≤ n → Pv i H → G H) (hs : ∀ i x H H', i < n → Pv i H → Yl i H x H' → g x (wipe σ vs) H' fun σ2 H2 => wipe σ2 vs = wipe σ vs ∧ te σ2 H2 fun v H4 => ∃ b, v = .bl b ∧ if b = stop then Q (.bl stop) H4 else Pv (i + 1) H4)
    (hd : ∀ H, Pv n H → Q (.bl (!stop)) H) : ∃ W : Nat → Nat → Hp → Prop, (∀ H2, Tabbed P H1 H2 → ∃ m, W 0 m H2) ∧ Way J g te stop vs σ Q W := by
  refine ⟨fun i m H => m = n - i ∧ i ≤ n ∧ Pv i H, fun H2 t => ⟨n, by simp, Nat.zero_le _, h0 H2 t⟩, ⟨?_⟩⟩
  rintro i m H ⟨rfl, hi, p⟩
  have q := hG i H hi p
  by_cases hlt : i < n
  · refine .inr ⟨w.goes i H hlt q, fun x H' y => ?_⟩
    have z := hs i x H H' hlt p (w.yields i H x H' hlt q y)
    have e : (fun (b : Bool) (H4 : Hp) => if b = stop then Q (.bl stop) H4 else ∃ m', m' < n - i ∧ m' = n - (i + 1) ∧ i + 1 ≤ n ∧ Pv (i + 1) H4) = fun b H4 => if b = stop then Q (.bl stop) H4 else Pv (i + 1) H4 := by
      funext b H4
      split
      · rfl
      · refine propext ⟨fun ⟨_, _, _, _, z⟩ => z, fun z => ⟨n - (i + 1), by omega, rfl, hlt, z⟩⟩
    have e2 : (fun v H4 => ∃ b, v = V.bl b ∧ if b = stop then Q (.bl stop) H4 else ∃ m', m' < n - i ∧ m' = n - (i + 1) ∧ i + 1 ≤ n ∧ Pv (i + 1) H4) = fun v H4 => ∃ b, v = V.bl b ∧ if b = stop then Q (.bl stop) H4 else Pv (i + 1) H4 := by
      funext v H4
      exact congrArg (fun f : Bool → Hp → Prop => ∃ b, v = V.bl b ∧ f b H4) e
    rw [e2]
    exact z
  · have e : i = n := by omega
    subst e
    exact .inl ⟨w.stops H q, hd H p⟩
section
variable {A B : Prop}
theorem on_t (h : B) : if true = false then A else B := by rw [if_neg (by decide)]; exact h
theorem end_f (h : A) : if false = false then A else B := by rw [if_pos rfl]; exact h
theorem on_f (h : B) : if false = true then A else B := by rw [if_neg (by decide)]; exact h
theorem end_t (h : A) : if true = true then A else B := by rw [if_pos rfl]; exact h
end
end GN
-- GT
/-! the law's own call under known guards, with the tables of the code objects that hold generator expressions -/
namespace LG
open PySem PySem.Spec PyProof.Rows L2
open GxR (TabB)
section
variable {P : Program} {w : World} {K : PySem.W.Frag} {mg mb : Str → Option Value} {k : Nat} {fa a : Addr} {fd : FuncData} {x : Str} {sp : Sp} {s₁ : Shared} {vs : List Value} {ns : List Int} {cs : List (Addr × Addr)}
/-- the abstract heap at the start: the script (if it is no written thing), the tables, nothing else -/
structure Begin (K : PySem.W.Frag) (cs : List (Addr × Addr)) (a : Addr) (H : Hp) : Prop where
  tab : ∀ p ∈ cs, H p.2 = some (.tbl #[])
  only : ∀ b u, H b = some u → (b ∈ cs.map (·.2) ∧ u = .tbl #[]) ∨ (b = a ∧ K.lookup a = none ∧ ∃ o xs, u = .frz o (.lst xs))
theorem enterT (KX : K.In s₁.heap) (gl : s₁.heap.Ns mainGlobals mg) (bl : s₁.heap.Ns builtinsNs mb) (bb : ∀ y : Str, y ≠ "__name__" → mb y = bootBuiltins y) (nl : s₁.heap.NoLimit) (g0 : s₁.gens = #[])
    (tb : ∀ p ∈ cs, s₁.heap.get? p.2 = some { cls := .none, data := .fields #[] }) (nk : ∀ p ∈ cs, K.lookup p.2 = none) (hd : ∀ p ∈ cs, PySem.W.CodeHd s₁.heap p.1 p.2)
    (bmn : ∃ (bm : Addr) (ob : Obj), mg "__builtins__" = some (.ref bm) ∧ bm ≠ builtinsNs ∧ s₁.heap.get? bm = some ob ∧ ob.cls = .type "module" ∧ ob.dict = some builtinsNs ∧ ob.data = .plain)
    (at_ : s₁.heap.get? a = some { cls := .type "list", data := .seq vs.toArray }) (room : Room k callerA) (bind : ∀ (s : Shared) (u : Value), BindsTo s fd ⟨[u], []⟩ [(x, u)])
    (F : ∀ base : Heap, K.In base → base.Ns mainGlobals mg → (∀ p ∈ cs, TabB base mg p.1 p.2) → FnG P w K mg base CX0 k fa fd [x] sp) {H : Hp} (bg : Begin K cs a H) (ok : HOk P w H s₁.heap)
    (want : sp [.ref a] H (fun v _ => v = .bl true) fun _ _ _ => False) :
    codeAny (model P w) callerA (.call (.ref fa) ⟨[.ref a], []⟩) (fun r s' => r = .ok (.ret (.bool true)) ∧ OldK s₁.heap s'.heap ∧ s'.os = s₁.os ∧ AllBare s'.gens) s₁ := by
  have tbm : ∀ b, b ∈ cs.map (·.2) → s₁.heap.get? b = some { cls := .none, data := .fields #[] } := fun b z => by
    obtain ⟨p, hp, rfl⟩ := List.mem_map.mp z
    exact tb p hp
  -- what is no list and no table is not told of
  have free : ∀ {b : Addr} {o : Obj}, s₁.heap.get? b = some o → (∀ it n, o.data ≠ .seq it n) → o.data ≠ .fields #[] → H b = none := fun {b o} z nd nf => by
    cases q : H b with
    | none => rfl
    | some u =>
      rcases bg.only b u q with ⟨m, _⟩ | ⟨rfl, _⟩
      · rw [tbm b m] at z
        cases z
        exact absurd rfl nf
      · rw [at_] at z
        cases z
        exact absurd rfl (nd vs.toArray _)
  have dic : ∀ {b : Addr} {o : Obj} {es : Array DictEntry} {ep : Nat}, s₁.heap.get? b = some o → o.data = .dict es ep → H b = none := fun {b o es ep} z d => free z (fun it n y => by rw [d] at y; exact nomatch y) fun y => by rw [d] at y; exact nomatch y
  have nsOf : ∀ {b : Addr} {m : Str → Option Value}, s₁.heap.Ns b m → (hidT s₁.heap H).Ns b m := fun {b m} ⟨o, es, ep, z, d, r⟩ => ⟨o, es, ep, hidT_get z (dic z d), d, r⟩
  have inB : K.In (hidT s₁.heap H) := fun b o z => by
    refine hidT_get (KX b o z) ?_
    cases q : H b with
    | none => rfl
    | some u =>
      rcases bg.only b u q with ⟨m, _⟩ | ⟨rfl, nl, _⟩
      · obtain ⟨p, hp, rfl⟩ := List.mem_map.mp m
        rw [nk p hp] at z
        cases z
      · rw [nl] at z
        cases z
  have md : Mod K mg (hidT s₁.heap H) := ⟨inB, nsOf gl, ⟨mb, nsOf bl, bb⟩, let ⟨mc, y1, y2⟩ := nl; ⟨mc, nsOf y1, y2⟩⟩
  have tabs : ∀ p ∈ cs, TabB (hidT s₁.heap H) mg p.1 p.2 := fun p hp => by
    have hP := tb p hp
    refine ⟨?_, ?_, fun z => ?_⟩
    · obtain ⟨o, us, f, tf, fl, tg, i, t, tt, z, c1, c2, c3, r⟩ := hd p hp
      refine ⟨o, us, f, tf, fl, tg, i, t, tt, hidT_get z (free z (fun it n y => by rw [c2] at y; exact nomatch y) fun y => ?_), c1, c2, c3, r⟩
      rw [c2] at y
      cases y
      simp at c3
    · obtain ⟨bm, ob, b1, b2, b3, b4, b5, b6⟩ := bmn
      refine ⟨bm, ob, b1, b2, fun z => ?_, fun z => ?_, hidT_get b3 (free b3 (fun it n y => by rw [b6] at y; exact nomatch y) fun y => by rw [b6] at y; exact nomatch y), b4, b5, b6⟩
      · obtain ⟨o, es, ep, e, d, _⟩ := gl
        rw [z, e] at b3
        cases b3
        rw [d] at b6
        exact nomatch b6
      · rw [z, hP] at b3
        cases b3
        exact nomatch b6
    · obtain ⟨o, es, ep, e, d, _⟩ := gl
      rw [z, hP] at e
      cases e
      exact nomatch d
  have en : Env0 P w K mg (hidT s₁.heap H) callerA [] s₁ H := ⟨rfl, md, fun b o z => of_hidT z, Nat.le_of_eq (hidT_size _ _), trivial, fun b z => absurd (show b ∈ ([] : List Addr) from z) (List.not_mem_nil), ok, .of_eq g0⟩
  refine codeAny_mono ((F _ inB (nsOf gl) tabs).run callerA [] s₁ H ⟨[.ref a], []⟩ [.ref a] [.ref a] _ _ room rfl en (bind s₁ (.ref a)) (.cons rfl .nil) want) fun r s' h => ?_
  cases r with
  | error e => exact False.elim h
  | ok fl =>
    cases fl with
    | next => exact False.elim h
    | brk => exact False.elim h
    | cont => exact False.elim h
    | ret u =>
      obtain ⟨v, G, e1, e2, un, okG, rel, q⟩ := h
      obtain rfl : v = V.bl true := q
      obtain rfl : u = Value.bool true := rel
      -- a table may have grown, all else stands
      have grow : ∀ p ∈ cs, ∃ more : Array Value, s'.heap.get? p.2 = some { cls := .none, data := .fields more } := fun p hp => by
        obtain ⟨more, z⟩ := un.tbls p.2 #[] (bg.tab p hp)
        exact ⟨_, okG p.2 _ z⟩
      have stay : ∀ b o, b ∉ cs.map (·.2) → s₁.heap.get? b = some o → s'.heap.get? b = some o := fun b o nb z => by
        cases q : H b with
        | none => exact un.keep b o z q (fun y => nomatch y) (fun y => nomatch y)
        | some u =>
          rcases bg.only b u q with ⟨m, _⟩ | ⟨_, _, ob, xs, rfl⟩
          · exact absurd m nb
          · have z1 := (ok b _ q).1
            have z2 := (okG b _ (un.frzs b ob _ q)).1
            rw [z] at z1
            cases z1
            exact z2
      refine ⟨rfl, ⟨fun b o z => ?_, fun b o z => ?_⟩, e1, e2⟩
      · by_cases m : b ∈ cs.map (·.2)
        · obtain ⟨p, hp, rfl⟩ := List.mem_map.mp m
          obtain ⟨more, hm⟩ := grow p hp
          rw [tb p hp] at z
          cases z
          exact .inr (.inl ⟨((hd p hp).tab (tb p hp)).isCodeTable, rfl, #[], more, rfl, by rw [Array.empty_append]; exact hm⟩)
        · exact .inl (stay b o m z)
      · by_cases m : b ∈ cs.map (·.2)
        · obtain ⟨p, hp, rfl⟩ := List.mem_map.mp m
          obtain ⟨more, hm⟩ := grow p hp
          exact ⟨_, hm⟩
        · exact ⟨o, stay b o m z⟩
theorem enterT_all (KX : K.In s₁.heap) (gl : s₁.heap.Ns mainGlobals mg) (bl : s₁.heap.Ns builtinsNs mb) (bb : ∀ y : Str, y ≠ "__name__" → mb y = bootBuiltins y) (nl : s₁.heap.NoLimit) (g0 : s₁.gens = #[])
    (tb : ∀ p ∈ cs, s₁.heap.get? p.2 = some { cls := .none, data := .fields #[] }) (nk : ∀ p ∈ cs, K.lookup p.2 = none) (hd : ∀ p ∈ cs, PySem.W.CodeHd s₁.heap p.1 p.2)
    (bmn : ∃ (bm : Addr) (ob : Obj), mg "__builtins__" = some (.ref bm) ∧ bm ≠ builtinsNs ∧ s₁.heap.get? bm = some ob ∧ ob.cls = .type "module" ∧ ob.dict = some builtinsNs ∧ ob.data = .plain)
    (at_ : s₁.heap.get? a = some { cls := .type "list", data := .seq vs.toArray }) (ia : IntsAre vs ns) (small : ns.length ≤ sizeLine) (room : Room k callerA) (bind : ∀ (s : Shared) (u : Value), BindsTo s fd ⟨[u], []⟩ [(x, u)])
    (F : ∀ base : Heap, K.In base → base.Ns mainGlobals mg → (∀ p ∈ cs, TabB base mg p.1 p.2) → FnG P w K mg base CX0 k fa fd [x] sp)
    (want : ∀ H : Hp, (∀ p ∈ cs, H p.2 = some (.tbl #[])) → SqL K H a (ns.map V.int) → sp [.ref a] H (fun v _ => v = .bl true) fun _ _ _ => False) :
    codeAny (model P w) callerA (.call (.ref fa) ⟨[.ref a], []⟩) (fun r s' => r = .ok (.ret (.bool true)) ∧ OldK s₁.heap s'.heap ∧ s'.os = s₁.os ∧ AllBare s'.gens) s₁ := by
  have rel := vals_ints ia
  have len := ia.length
  have tbm : ∀ b, b ∈ cs.map (·.2) → s₁.heap.get? b = some { cls := .none, data := .fields #[] } := fun b z => by
    obtain ⟨p, hp, rfl⟩ := List.mem_map.mp z
    exact tb p hp
  have an : a ∉ cs.map (·.2) := fun z => by
    have e := tbm a z
    rw [at_] at e
    exact nomatch congrArg Obj.data (Option.some.inj e)
  have mem : ∀ p ∈ cs, p.2 ∈ cs.map (·.2) := fun p hp => List.mem_map.mpr ⟨p, hp, rfl⟩
  cases hk : K.lookup a with
  | some o =>
    have z := KX a o hk
    rw [at_] at z
    cases z
    let H : Hp := fun b => if b ∈ cs.map (·.2) then some (.tbl #[]) else none
    have e1 : ∀ b, b ∈ cs.map (·.2) → H b = some (.tbl #[]) := fun b m => if_pos m
    have e2 : ∀ b u, H b = some u → b ∈ cs.map (·.2) ∧ u = .tbl #[] := fun b u z => by
      by_cases m : b ∈ cs.map (·.2)
      · rw [e1 b m] at z
        cases z
        exact ⟨m, rfl⟩
      · rw [show H b = none from if_neg m] at z
        cases z
    refine enterT KX gl bl bb nl g0 tb nk hd bmn at_ room bind F (H := H) ⟨fun p hp => e1 _ (mem p hp), fun b u z => .inl (e2 b u z)⟩ (fun b u z => ?_)
      (want H (fun p hp => e1 _ (mem p hp)) (.inr ⟨_, vs.toArray, _, hk, rfl, rfl, rfl, by rw [List.size_toArray, len]; exact small, by simpa using rel⟩))
    obtain ⟨m, rfl⟩ := e2 b u z
    exact tbm b m
  | none =>
    let ob : Obj := { cls := .type "list", data := .seq vs.toArray }
    let H : Hp := fun b => if b = a then some (.frz ob (.lst (ns.map V.int))) else if b ∈ cs.map (·.2) then some (.tbl #[]) else none
    have hit : H a = some (.frz ob (.lst (ns.map V.int))) := if_pos rfl
    have e1 : ∀ b, b ∈ cs.map (·.2) → H b = some (.tbl #[]) := fun b m => (if_neg (fun z => an (by rw [← z]; exact m))).trans (if_pos m)
    have e2 : ∀ b u, H b = some u → (b ∈ cs.map (·.2) ∧ u = .tbl #[]) ∨ (b = a ∧ u = .frz ob (.lst (ns.map V.int))) := fun b u z => by
      by_cases i : b = a
      · rw [i, hit] at z
        cases z
        exact .inr ⟨i, rfl⟩
      · by_cases m : b ∈ cs.map (·.2)
        · rw [e1 b m] at z
          cases z
          exact .inl ⟨m, rfl⟩
        · rw [show H b = none from (if_neg i).trans (if_neg m)] at z
          cases z
    refine enterT KX gl bl bb nl g0 tb nk hd bmn at_ room bind F (H := H) ⟨fun p hp => e1 _ (mem p hp), fun b u z => (e2 b u z).imp id fun ⟨i, e⟩ => ⟨i, hk, ob, _, e⟩⟩ (fun b u z => ?_) (want H (fun p hp => e1 _ (mem p hp)) (.inl (.inr ⟨ob, hit⟩)))
    rcases e2 b u z with ⟨m, rfl⟩ | ⟨rfl, rfl⟩
    · exact tbm b m
    · exact ⟨at_, by rw [List.length_map]; exact small, vs, _, rel, at_⟩
end
/-- a def of the text whose code object's table is empty at the law's start -/
def Bare (mg : Str → Option Value) (h : Heap) (nm : Str) : Prop := ∃ (a c P : Addr) (o : Obj) (fd : FuncData), mg nm = some (.ref a) ∧ h.get? a = some o ∧ o.data = .func fd ∧ fd.code = .ref c ∧ PySem.W.CodeHd h c P ∧ h.get? P = some { cls := .none, data := .fields #[] }
/-- what k_head leaves, from the law's promise; nms: the defs that hold generator expressions -/
theorem walkGT {l : PySem.W.OpenLaw} {n k : Nat} {q : Program} {loose : List Str} {XP : (Str → Option Value) → Heap → Prop} {YP : World → Heap → Prop} {d : DefRec} {K : Params → PySem.W.Frag} {x : Str} (nms : List Str)
    (hn : l.most = some n) (hz : n ≤ sizeLine) (hdf : d.params.defaults = []) (room : Room k callerA) (hrec : (nms.all fun nm => (recsOf q).any fun e => e.name == nm) = true) (hY : ∀ (w : World) (h : Heap), YP w h → (K w.params).In h)
    (F : ∀ (w : World) (mg : Str → Option Value) (fa : Addr) (h : Heap), (K w.params).In h → h.Ns mainGlobals mg → mg d.name = some (.ref fa) → (∀ nm ∈ nms, Bare mg h nm) →
      ∃ (fd : FuncData) (cs : List (Addr × Addr)) (sp : Sp), (∀ p ∈ cs, h.get? p.2 = some { cls := .none, data := .fields #[] }) ∧ (∀ p ∈ cs, (K w.params).lookup p.2 = none) ∧ (∀ p ∈ cs, PySem.W.CodeHd h p.1 p.2) ∧ (∀ (s : Shared) (u : Value), BindsTo s fd ⟨[u], []⟩ [(x, u)]) ∧
        (∀ (H : Hp) (a : Addr) (ns : List Int), ns.length ≤ n → (∀ p ∈ cs, H p.2 = some (.tbl #[])) → SqL (K w.params) H a (ns.map V.int) → sp [.ref a] H (fun v _ => v = .bl true) fun _ _ _ => False) ∧
        ∀ base : Heap, (K w.params).In base → base.Ns mainGlobals mg → (∀ p ∈ cs, TabB base mg p.1 p.2) → FnG l.prog w (K w.params) mg base CX0 k fa fd [x] sp) :
    PySem.W.WalkO q loose XP YP l.row.toRowW d [] (fun f vs => PySem.call f vs) := by
  refine Att.attach_call hn hdf fun w s0 s1 mg mb fa o pm cd doc a vs ns G Y ho hd hcd hmg hobj ia len g0 => ?_
  obtain ⟨fd, cs, sp, t1, t2, t3, bi, wt, FF⟩ := F w mg fa _ (hY w _ Y) G.T.g hmg fun nm hnm => by
    obtain ⟨e, he, en⟩ := List.any_eq_true.mp (List.all_eq_true.mp hrec nm hnm)
    obtain ⟨b, o2, fd2, c2, P2, h1, h2, h3, h4, h5, h6⟩ := G.T.tab e he
    rw [beq_iff_eq.mp en] at h1
    exact ⟨b, c2, P2, o2, fd2, h1, h2, h3, h4, PySem.W.CodeHd.of h5 h6, h6.2⟩
  exact enterT_all (hY w _ Y) G.T.g G.T.b G.T.builtins G.T.nolimit g0 t1 t2 t3 G.T.bmain hobj ia (Nat.le_trans len hz) room bi FF fun H ht hs => wt H a ns len ht hs
end LG
-- EX
/-! errors of own classes whose __init__ tells the class's name: C.__name__, e.__class__, isinstance, the whole of a raise -/
namespace LX
open PySem PySem.W PySem.Calls PyProof.Rows Builtin Builtin.ObjectAttr Builtin.Getset_descriptor
section
variable {prog : Program} {w : World} {A : Around} {E : Value → Shared → Prop} {s : Shared} {K : Frag} {R : Result → Shared → Prop} {C : Addr}
/-- the name that a class keeps in its slots -/
theorem kept_name {tp v : Value} {o : Obj} (X : K.In s.heap) (tC : typeIn K (.ref C) = some (.type "type")) (ho : K.lookup C = some o) (hs : o.slots[2]? = some (some v)) (h : R (.ok (.ret v)) s) :
    codeAny (model prog w) A (.call (.builtin "getset_descriptor.__get__") ⟨[.builtin "type.__name__", .ref C, tp], []⟩) R s := by
  obtain ⟨hp, g, dr, tk, os⟩ := s
  have isTy : Looks (model prog w) hp (typeOf (.ref C)) (.type "type") := looks_typeIn X tC
  have same : Looks (model prog w) hp (isSubtype (.type "type") (.type "type")) true := .of_pure (by rw [isSubtype_type]; kernel_rfl)
  refine codeAny_call_builtin KF.slot_gs.plain KF.entry_gs (KF.slot_gs.check _ _ _ _ _ _ _ _ ktyn_type (KF.args_gs _ _ _) ?_)
  unfold Builtin.«getset_descriptor.__get__» descrGet
  rw [show descrGetArgs ⟨[.builtin "type.__name__", .ref C, tp], []⟩ = pure (.builtin "type.__name__", some (.ref C), given tp) by kernel_rfl]
  refine wpAny_bind (wpAny_pure ?_); unfold descrGetter descrCheckInstance descrNameAndClass isInstance
  simp only [ktyn_owner]; repeat lk
  refine ⟨Code.quiet_builtin _ (by decide +kernel), codeAny_builtin ktyn_entry ?_⟩
  unfold Builtin.«type.__name__» keptObject slotAt; dsimp only
  refine wpAny_bind (wpAny_bind (wpAny_loadPart_at (X _ _ ho) (wpAny_pure ?_))); rw [hs]
  exact wpAny_pure h
theorem name_of_class {v : Value} {o : Obj} {ex : Bool} {Q : Value → Shared → Prop} (X : K.In s.heap) (hr : readsIn K C (.type "type") = true)
    (e : findCls K (.ref C) (.type "type") "__name__" = some (.get (.builtin "getset_descriptor.__get__") (.builtin "type.__name__") (.ref C) (.type "type")))
    (tC : typeIn K (.ref C) = some (.type "type")) (ho : K.lookup C = some o) (hs : o.slots[2]? = some (some v)) (hv : handedIn v = true) (h : Q v { s with toks := s.toks + 1 }) :
    wpAny (model prog w) A (getAttr (.ref C) "__name__" ex) Q E s := cls_bind X hr e (wpAny_call (kept_name (s := { s with toks := s.toks + 1 }) X tC ho hs (handed_on hv h)))
/-- what the written part says of an own error class -/
structure Own (K : Frag) (D : Addr) : Prop where
  cl : (clsIn K D).isSome = true
  ga : findIn K (.ref D) "__getattribute__" = some (some (.builtin "BaseException.__getattribute__"))
  gt : findIn K (.ref D) "__getattr__" = some none
  sub : subIn K (.ref D) (.type "BaseException") = some true
  at_ : findIn K (.ref D) "__class__" = some (some (.builtin "object.__class__"))
  sp : specialIn K (.builtin "object.__class__") "__get__" = some (some (.builtin "getset_descriptor.__get__"))
  tk : takesIn K (.builtin "object.__class__") = some true
  mro : mroIn K D (.type "object") = some true
theorem class_of_error {x D : Addr} {ox : Obj} {od : Option Obj} {ex : Bool} {Q : Value → Shared → Prop} (T : Own K D) (X : K.In s.heap) (I : InstAt s.heap x ox D od) (h : Q (.ref D) { s with toks := s.toks + 1 }) :
    wpAny (model prog w) A (getAttr (.ref x) "__class__" ex) Q E s := by
  have hf : findObj K D od "__class__" = some (.bind (.builtin "getset_descriptor.__get__") (.builtin "object.__class__")) := findObj_dataE T.cl T.at_ T.sp T.tk
  obtain ⟨hp, g, d, t, os⟩ := s
  have l0 := I.type (M := model prog w); have l1 := looks_findIn (M := model prog w) X T.ga
  have l2 := looks_findIn (M := model prog w) X T.gt; have l3 := looks_find (M := model prog w) X I hf
  have isE : Looks (model prog w) hp (isInstance (.ref x) (.type "BaseException")) true := l0.andThen (looks_subIn X T.sub)
  have n2 : (Value.builtin "BaseException.__getattribute__" == Value.builtin "object.__getattribute__") = false := by decide +kernel
  unfold getAttr getAttrBy
  refine wpAny_bind (wpAny_mkText (wpAny_holding (wpAny_bind (l0.at (wpAny_bind (l1.at ?_))))))
  show wpAny _ _ (if (onTheHeap (Value.ref D) && Value.builtin "BaseException.__getattribute__" == Value.builtin "object.__getattribute__") = true then _ else _) _ _ _; rw [n2, Bool.and_false, if_neg Bool.false_ne_true]
  unfold getAttrByItsOwn hookBefore; refine wpAny_bind ?_; rw [if_pos (show onTheHeap (Value.ref D) = true from rfl)]
  refine l2.at (wpAny_bind (wpAny_attempt (wpAny_holding ?_)))
  unfold callGetattribute boundAndCalled; rw [show (ex && onTheHeap (Value.builtin "BaseException.__getattribute__")) = false by cases ex <;> rfl, if_neg Bool.false_ne_true, PySem.F.excAttr_ValueError.ga.bind (.ref x)]
  refine wpAny_bind (wpAny_pure ?_); show wpAny _ _ (call (.builtin "BaseException.__getattribute__") [.ref x, .str "__class__" t]) _ _ _
  refine wpAny_call (codeAny_call_builtin PySem.F.excAttr_ValueError.ga.plain PySem.F.entry_bexc_ga (@PySem.W.check_slot (model prog w) _ _ ⟨hp, g, d, t + 1, os⟩ "BaseException.__getattribute__" "BaseException" "__getattribute__" (.ref x) [.str "__class__" t] [] _ (by decide +kernel) (by decide +kernel) isE (PySem.F.args_bexc_ga (.ref x) (.str "__class__" t)) ?_))
  unfold Builtin.«object.__getattribute__»; refine wpAny_bind (wpAny_of_eq (a := ((Value.ref x : Value), [Value.str "__class__" t])) (by first | rfl | (simp only [slotArgs]; rfl)) ?_)
  refine wpAny_bind (wpAny_pure (wpAny_bind (l0.at (wpAny_bind (l3.at (wpAny_bind (wpAny_holding (wpAny_call (class_get (s := ⟨hp, g, d, t + 1, os⟩) (ox := ox) (od := od) X I T.mro ?_)))))))))
  refine wpAny_pure ?_; show wpAny _ _ (handedOut (.ref D)) _ _ _; rw [handedOut_of (v := .ref D) rfl]
  first | exact wpAny_pure h | exact wpAny_pure (wpAny_pure h)
end
end LX
namespace LX
open PySem PySem.Spec PyProof.Rows L2
/-- .. and of its kept name -/
structure Named (K : PySem.W.Frag) (D : Addr) (nm : Str) : Prop where
  own : Own K D
  rd : PySem.W.readsIn K D (.type "type") = true
  fc : PySem.W.findCls K (.ref D) (.type "type") "__name__" = some (.get (.builtin "getset_descriptor.__get__") (.builtin "type.__name__") (.ref D) (.type "type"))
  ty : PySem.W.typeIn K (.ref D) = some (.type "type")
  lk : ∃ (o : Obj) (t : Tok), K.lookup D = some o ∧ o.slots[2]? = some (some (.str nm t))
  sz : nm.length ≤ 1000
def tCn (K : PySem.W.Frag) (te : TE) : TE := fun σ H Q => te σ H fun x H1 => ∃ (a D : Addr) (nm : Str), x = .ref a ∧ H1 a = some (exo a D none) ∧ Named K D nm ∧ Q (.str nm) H1
/-- self.__class__.__name__ -/
theorem pe_cn {X : Cx} {e : Expr} {te : TE} {p1 p2 : Pos} (he : PE X e te) (hb : attributeBase e "__class__" X.env (eval e X.env) = eval e X.env := by rfl)
    (hb2 : attributeBase (.Attribute e "__class__" p1) "__name__" X.env (eval (.Attribute e "__class__" p1) X.env) = eval (.Attribute e "__class__" p1) X.env := by rfl) : PE X (.Attribute (.Attribute e "__class__" p1) "__name__" p2) (tCn X.K te) := by
  refine ⟨fun pins s σ H Q I h => attr_of hb2 (attr_of hb (thn (he.run pins s σ H _ I h) fun u s1 hh => ?_))⟩
  obtain ⟨x, H1, J, rx, a, D, nm, rfl, ea, T, q⟩ := hh
  obtain rfl : u = Value.ref a := rx
  obtain ⟨t1, hg⟩ := exo_at J.hok ea
  obtain ⟨o, tk, hlk, hsl⟩ := T.lk
  refine class_of_error (od := none) T.own J.kIn ⟨hg, rfl, rfl, True.intro⟩ ?_
  exact name_of_class (s := { s1 with toks := s1.toks + 1 }) J.kIn T.rd T.fc T.ty hlk hsl rfl ⟨.str nm, H1, (J.tok _).tok _, ⟨tk, rfl⟩, q⟩
/-- isinstance(e, c) of a caught error that has fields -/
def rIsD (K : PySem.W.Frag) (D a dd : Addr) : List V → Hp → VK → Prop := fun xs H Q => ∃ (c : V) (cv : Value) (b : Bool) (fs : List (Str × V)), xs = [.ref a, c] ∧ ClsV c cv ∧ H dd = some (.xd fs) ∧ PySem.W.kitOne K (.ref D) cv = some b ∧ Q (.bl b) H
theorem call_isD {X : Cx} {a D dd : Addr} {oe : Obj} {pn : List (Addr × Obj)} (T : Own X.K D) (hz : Zc (.ref D) (some dd) oe) (hf : ∃ vs, oe.data = .fields vs) : CallR (X.suite a ((a, oe) :: pn)) (.builtin "isinstance") (rIsD X.K D a dd) := by
  intro pins s σ H xs us Q I r h
  obtain ⟨c, cv, b, fs, rfl, hcv, hdd, e, q⟩ := h
  obtain ⟨u1, u2, rfl, r1, r2⟩ := vals2 r
  obtain rfl : u1 = Value.ref a := r1
  have ec := hcv.eq r2
  subst ec
  obtain ⟨hget, _⟩ := I.pin (a, oe) (List.mem_append_left _ List.mem_cons_self)
  obtain ⟨vs, hv⟩ := hf
  have hx : ObjOk X.prog X.w H s.heap dd (.xd fs) := I.hok dd _ hdd
  obtain ⟨mA, hns, _⟩ := hx
  obtain ⟨od, ho, _⟩ := lookIn_ns hns
  have J : PySem.W.InstAt s.heap a oe D (some od) := ⟨hget, hz.1, by unfold PySem.W.notCls; rw [hv] <;> rfl, by rw [hz.2]; exact ho⟩
  exact PySem.W.kia_one (PySem.W.kitx_exc T.cl T.ga T.gt T.sub T.at_ T.sp T.tk T.mro) I.kIn J e (fun z => nomatch z) fun tk => ⟨.bl b, H, I.tok tk, rfl, q⟩
end LX
-- EY
/-! further generic texts: // by a divisor of any sign, isinstance of a caught error whose class is told by the reading, the facts of an own error class that keeps a number -/
namespace LX
open PySem PySem.Spec PyProof.Rows L2
def CDivWN (_ j : Int) : Prop := j ≠ 0 ∧ j.natAbs.log2 < 9000
section
variable {X : Cx}
theorem op_fdivWN : OpR X (binaryOp .FloorDiv) (rI CDivWN fun i j => .int (i.fdiv j)) := opI fun _ _ _ _ _ _ _ hc q => floordiv_int hc.1 q (.inl (PyProof.noPylong_of_log2 hc.2))
end
def rIsX (K : PySem.W.Frag) (a : Addr) (cls : Value) (d : Option Addr) : List V → Hp → VK → Prop := fun xs H Q => ∃ (D dd : Addr) (c : V) (cv : Value) (b : Bool) (fs : List (Str × V)), cls = .ref D ∧ d = some dd ∧ Own K D ∧ xs = [.ref a, c] ∧ ClsV c cv ∧
  H dd = some (.xd fs) ∧ PySem.W.kitOne K (.ref D) cv = some b ∧ Q (.bl b) H
theorem call_isX {X : Cx} {a : Addr} {cls : Value} {d : Option Addr} {oe : Obj} {pn : List (Addr × Obj)} (hz : Zc cls d oe) (hf : ∃ vs, oe.data = .fields vs) : CallR (X.suite a ((a, oe) :: pn)) (.builtin "isinstance") (rIsX X.K a cls d) := by
  intro pins s σ H xs us Q I r h
  obtain ⟨D, dd, c, cv, b, fs, rfl, rfl, T, ex, hcv, hdd, e, q⟩ := h
  exact call_isD T hz hf pins s σ H xs us Q I r ⟨c, cv, b, fs, ex, hcv, hdd, e, q⟩
theorem text_len {i : Int} {k : Nat} (hk : 0 < k) (h : i.natAbs < 10 ^ k) : (Str.ofString (toString i)).length ≤ k + 1 := by
  have e := PySem.int_text_length_le10 hk h
  rw [PyProof.Rows.ofString_length]
  exact e
theorem bits_le {i : Int} {k : Nat} (h : i.natAbs < 2 ^ k) : Builtin.Int.intBits i ≤ k := PyProof.Rows.intBits_le h
/-- the base of the text's errors -/
structure Err0 (K : PySem.W.Frag) (mg : Str → Option Value) (st : Stmt) where
  CM : Addr
  f : Addr
  fd : FuncData
  F : Fun K "__init__" "ModelError.__init__" st f fd
  b : Binds K fd ["self", "at"] []
  tI : PySem.W.typeIn K (.ref f) = some (.type "function")
  gM : mg "ModelError" = some (.ref CM)
  mV : mg "ValueError" = none
  vV : PySem.W.findCls K (.type "ValueError") (.type "type") "__init__" = some (.val (.builtin "ValueError.__init__"))
/-- one of them -/
structure ErrC (K : PySem.W.Frag) (mg : Str → Option Value) (x : Str) (CM f : Addr) where
  C : Addr
  nm : Str
  named : Named K C nm
  oex : OexC K C
  noAt : PySem.W.findIn K (.ref C) "at" = some none
  iC : PySem.W.findIn K (.ref C) "__init__" = some (some (.ref f))
  g : mg x = some (.ref C)
  exm : PySem.W.exmOne K (.ref C) (.ref CM) = some true
  kit : PySem.W.kitOne K (.ref C) (.ref C) = some true
  xf : XfC K C
/-- an error of the class at C is taken by a clause for the class at S above it -/
theorem exm_is {K : PySem.W.Frag} {S C : Addr} (h1 : PySem.W.subIn K (.ref S) (.type "BaseException") = some true) (h2 : PySem.W.isClsIn K S = true) (h3 : PySem.W.typeIn K (.ref S) = some (.type "type")) (h4 : PySem.W.subIn K (.ref C) (.ref S) = some true) :
    PySem.W.exmOne K (.ref C) (.ref S) = some true := by
  have a : ((PySem.W.clsIn K S).isSome && PySem.W.typeIn K (.ref S) == some (.type "type")) = true := by
    rw [show (PySem.W.clsIn K S).isSome = true from h2, h3]; rfl
  unfold PySem.W.exmOne
  rw [h1, if_pos (by rfl)]
  show (if ((PySem.W.clsIn K S).isSome && PySem.W.typeIn K (.ref S) == some (.type "type")) = true then PySem.W.subIn K (.ref C) (.ref S) else none) = some true
  rw [if_pos a, h4]
theorem refs_one (c : Addr) : PySem.HandSPX.refsVE [.ref c, .type "ValueError", .type "Exception", .type "BaseException", .type "object"] = true := by
  show PySem.HandSPX.refsVE PySem.HandSPX.veTail = true
  decide +kernel
theorem kit_self (K : PySem.W.Frag) (C : Addr) : PySem.W.kitOne K (.ref C) (.ref C) = some true := by
  unfold PySem.W.kitOne
  rw [if_pos (by simp)]
/-- a and b as a value, where b changes nothing and its answer is known -/
def tAndP (ta tb : TE) : TE := fun σ H Q => ta σ H fun x H1 => ∃ c r, x = .bl c ∧ (c = true → ∀ Q' : VK, Q' (.bl r) H1 → tb σ H1 Q') ∧ Q (.bl (c && r)) H1
theorem pe_andP {X : Cx} {a b : Expr} {rest : List Expr} {ta tb : TE} {pos : Pos} (ha : PE X a ta) (hb : PE X (.BoolOp .And (b :: rest) pos) tb) : PE X (.BoolOp .And (a :: b :: rest) pos) (tAndP ta tb) := by
  refine ⟨fun pins s σ H Q I h => ?_⟩
  refine BoolOp_and (thn (ha.run pins s σ H _ I h) fun v s1 ⟨x, H1, I1, r1, q1⟩ => ?_)
  obtain ⟨c, r, rfl, hA, q⟩ := q1
  cases r1
  refine wpAny_truthy_bool ?_
  cases c with
  | true => exact hb.run pins s1 σ H1 Q I1 (hA rfl Q q)
  | false => exact ⟨.bl false, H1, I1, rfl, q⟩
/-- an error is let go that stood above H -/
theorem upd_back {H : Hp} {a d : Addr} {o1 o2 o3 x : HO} (ha : H a = none) (hd : d ≠ a) : upd (del (upd (upd (upd H a o1) d o2) a o3) a) d x = upd H d x := by
  funext b
  by_cases h1 : b = d
  · rw [h1, upd_same, upd_same]
  · rw [upd_ne h1, upd_ne h1]
    by_cases h2 : b = a
    · rw [h2, del_same, ha]
    · rw [del_ne h2, upd_ne h2, upd_ne h1, upd_ne h2]
/-- __init__ of the text's errors, at an error of the class C -/
def sp_init (K : PySem.W.Frag) : Sp := fun vs H Q _ => ∃ (e C : Addr) (nm : Str) (i : Int), vs = [.ref e, .int i] ∧ H e = some (exo e C none) ∧ Named K C nm ∧ OexC K C ∧ PySem.W.findIn K (.ref C) "at" = some none ∧ i.natAbs < 10 ^ 12 ∧
  ∀ d, H d = none → d ≠ e → Q .non (upd (upd H d (exd d [("at", .int i)])) e (exo e C (some d)))
/-- what a raise asks when the class's __init__ is as above -/
theorem raised {K : PySem.W.Frag} {mg : Str → Option Value} {x : Str} {CM f : Addr} (T : ErrC K mg x CM f) {H : Hp} {n : Int} {E : XK} (hn : n.natAbs < 10 ^ 12) (q : ∀ d, H d = none → E (.ref T.C) (some d) (upd H d (.xd [("at", .int n)]))) (a : Addr) (ha : H a = none) :
    sp_init K (.ref a :: ([.int n] ++ [])) (upd H a (exo a T.C none)) (fun v H2 => v = .non ∧ ∃ (d : Addr) (fs : List (Str × V)), H2 a = some (exo a T.C (some d)) ∧ H2 d = some (exd d fs) ∧ H d = none ∧ E (.ref T.C) (some d) (upd (del H2 a) d (.xd fs))) (fun _ _ _ => False) := by
  refine ⟨a, T.C, T.nm, n, rfl, upd_same, T.named, T.oex, T.noAt, hn, fun d hd ne => ⟨rfl, d, [("at", .int n)], upd_same, ?_, ?_, ?_⟩⟩
  · rw [upd_ne ne]; exact upd_same
  · rw [upd_ne ne] at hd; exact hd
  · rw [upd_ne ne] at hd
    rw [upd_back ha ne]
    exact q d hd
end LX
-- DD
/-! {k: v for x in xs .. for y in ys ..} -/
namespace LD
open PySem PySem.Spec PyProof.Rows L2
section
variable {prog : Program} {w : World} {A : Around} {R : Result → Shared → Prop} {s : Shared} {kx vx t0 i0 t1 i1 : Expr} {ifs0 ifs1 : List Expr} {scope : Scope} {pos : Pos} {it : Value} {D : Addr} {env : Env}
/-- the expression -/
abbrev two (kx vx t0 i0 t1 i1 : Expr) (ifs0 ifs1 : List Expr) (scope : Scope) (pos : Pos) : Expr := .DictComp kx vx [⟨t0, i0, ifs0, 0⟩, ⟨t1, i1, ifs1, 0⟩] scope pos
/-- the tests of a clause -/
abbrev tests (ifs : List Expr) (env : Env) : Sem Bool := forIn ifs true fun c r => if r = true then do
  let ok ← PySem.isTrue c env (eval c env)
  pure (ForInStep.yield ok) else pure (ForInStep.yield r)
theorem mn {α : Type} {M : Model} {m : Sem α} {Q Q' : α → Shared → Prop} {E : Value → Shared → Prop} (h : wpAny M A m Q E s) (f : ∀ a s, Q a s → Q' a s) : wpAny M A m Q' E s := wpAny_mono h f fun _ _ z => z
/-- the inner clause's turns -/
theorem inner (I : Nat → Shared → Prop) (turn : ∀ n s, I n s → wpAny (model prog w) A (pyNext it) (fun r s1 => match r with
      | none => R (.ok .next) s1
      | some v => wpAny (model prog w) A (letOwnedTupleGo t1 it v) (fun _ s1' => wpAny (model prog w) A (assign t1 env v) (fun _ s2 => wpAny (model prog w) A (tests ifs1 env) (fun ok s3 =>
          if ok = true then wpAny (model prog w) A (eval kx env) (fun kv s4 => wpAny (model prog w) A (eval vx env) (fun vv s5 => wpAny (model prog w) A (dictSet D kv vv) (fun _ s6 => ∃ m, m < n ∧ I m s6)
            (notedBy (model prog w) A env fun e s' => R (.error e) s') s5) (notedBy (model prog w) A env fun e s' => R (.error e) s') s4) (notedBy (model prog w) A env fun e s' => R (.error e) s') s3 else ∃ m, m < n ∧ I m s3)
          (notedBy (model prog w) A env fun e s' => R (.error e) s') s2) (notedBy (model prog w) A env fun e s' => R (.error e) s') s1') (notedBy (model prog w) A env fun e s' => R (.error e) s') s1)
      (notedBy (model prog w) A env fun e s' => R (.error e) s') s) (n : Nat) (h : I n s) :
    codeAny (model prog w) A (.compLoop (two kx vx t0 i0 t1 i1 ifs0 ifs1 scope pos) 1 it (.ref D) env) R s := by
  refine codeAny_loop rfl I (fun n s hI => ?_) n h
  refine wpAny_noted ?_
  show wpAny (model prog w) A (compTurn (two kx vx t0 i0 t1 i1 ifs0 ifs1 scope pos) 1 it (.ref D) env) _ _ s
  unfold compTurn
  refine wpAny_bind (wpAny_standAt (wpAny_bind (mn (turn n s hI) fun r s1 h1 => ?_)))
  cases r with
  | none => exact wpAny_pure h1
  | some v =>
    refine wpAny_bind (mn h1 fun _ s1' h1' => wpAny_bind (mn h1' fun _ s2 h2 => wpAny_bind (mn h2 fun ok s3 h3 => ?_)))
    cases ok with
    | false => exact wpAny_pure ⟨rfl, h3⟩
    | true =>
      refine wpAny_bind (wpAny_bind (mn h3 fun kv s4 h4 => wpAny_bind (wpAny_holding (mn h4 fun vv s5 h5 => ?_))))
      refine wpAny_bind (wpAny_standAt (wpAny_holding (mn h5 fun _ s6 h6 => wpAny_pure ⟨rfl, h6⟩)))
/-- the outer clause's turns -/
theorem outer (hs : ∀ x, foldedSetIterable i1 env x = pure x) (I : Nat → Shared → Prop) (turn : ∀ n s, I n s → wpAny (model prog w) A (pyNext it) (fun r s1 => match r with
      | none => R (.ok .next) s1
      | some v => wpAny (model prog w) A (letOwnedTupleGo t0 it v) (fun _ s1' => wpAny (model prog w) A (assign t0 env v) (fun _ s2 => wpAny (model prog w) A (tests ifs0 env) (fun ok s3 =>
          if ok = true then wpAny (model prog w) A (eval i1 env) (fun x s4 => wpAny (model prog w) A (pyIter x) (fun it1 s5 =>
            codeAny (model prog w) A (.compStart (two kx vx t0 i0 t1 i1 ifs0 ifs1 scope pos) 1 it1 (.ref D) env) (fun r s' => match r with
              | .ok _ => ∃ m, m < n ∧ I m s'
              | .error _ => False) s5)
            (notedBy (model prog w) A env fun e s' => R (.error e) s') s4) (notedBy (model prog w) A env fun e s' => R (.error e) s') s3 else ∃ m, m < n ∧ I m s3)
          (notedBy (model prog w) A env fun e s' => R (.error e) s') s2) (notedBy (model prog w) A env fun e s' => R (.error e) s') s1') (notedBy (model prog w) A env fun e s' => R (.error e) s') s1)
      (notedBy (model prog w) A env fun e s' => R (.error e) s') s) (n : Nat) (h : I n s) :
    codeAny (model prog w) A (.compLoop (two kx vx t0 i0 t1 i1 ifs0 ifs1 scope pos) 0 it (.ref D) env) R s := by
  refine codeAny_loop rfl I (fun n s hI => ?_) n h
  refine wpAny_noted ?_
  show wpAny (model prog w) A (compTurn (two kx vx t0 i0 t1 i1 ifs0 ifs1 scope pos) 0 it (.ref D) env) _ _ s
  unfold compTurn
  refine wpAny_bind (wpAny_standAt (wpAny_bind (mn (turn n s hI) fun r s1 h1 => ?_)))
  cases r with
  | none => exact wpAny_pure h1
  | some v =>
    refine wpAny_bind (mn h1 fun _ s1' h1' => wpAny_bind (mn h1' fun _ s2 h2 => wpAny_bind (mn h2 fun ok s3 h3 => ?_)))
    cases ok with
    | false => exact wpAny_pure ⟨rfl, h3⟩
    | true =>
      refine wpAny_bind (mn h3 fun x s4 h4 => wpAny_bind (wpAny_standAt ?_))
      refine wpAny_bind (wpAny_of_eq (hs x) (wpAny_bind (wpAny_holding (mn h4 fun it1 s5 h5 => ?_))))
      refine wpAny_bind (wpAny_runOwn (h := none) (codeAny_mono h5 fun r s' hr => ?_))
      cases r with
      | ok a => exact wpAny_pure ⟨rfl, hr⟩
      | error a => exact hr.elim
/-- the inner clause begins -/
theorem start1 {acc : Value} (h0 : codeAny (model prog w) A (.compLoop (two kx vx t0 i0 t1 i1 ifs0 ifs1 scope pos) 1 it acc env) R s)
    (h : wpAny (model prog w) A (pyIter it) (fun it' s' => codeAny (model prog w) A (.compLoop (two kx vx t0 i0 t1 i1 ifs0 ifs1 scope pos) 1 it' acc env) R s') (notedBy (model prog w) A env fun x s' => R (.error x) s') s) :
    codeAny (model prog w) A (.compStart (two kx vx t0 i0 t1 i1 ifs0 ifs1 scope pos) 1 it acc env) R s := by
  refine codeAny_of_tree ?_
  refine wpAny_notedAt ?_
  refine wpAny_bind (wpAny_askSetting (wpAny_ite ?_))
  split
  · exact wpAny_bind (wpAny_pure (wpAny_pure ⟨rfl, h0⟩))
  · exact wpAny_bind (wpAny_rule (wpAny_bind (wpAny_standAt (wpAny_bind (mn h fun it' s' h' => wpAny_pure ⟨rfl, h'⟩)))))
end
/-- an inner turn's wish -/
abbrev StepI (g1 : TG) (tt1 : TT) (tk tv : TE) (vs1 : List Nat) (τ : L2.St) (D : Addr) (Nx1 : Hp → Prop) (x : V) (Hx : Hp) : Prop :=
  g1 x (wipe τ vs1) Hx fun ρ Ha => wipe ρ vs1 = wipe τ vs1 ∧ tt1 ρ Ha fun b Hb =>
    if b = true then tk ρ Hb fun y Hc => tv ρ Hc fun z Hd => ∃ (kvs : List (Key × V)) (k : Key), y = kV k ∧ Hd D = some (.dK kvs) ∧ kvs.length < sizeLine ∧ Nx1 (upd Hd D (.dK (putK kvs k z))) else Nx1 Hb
/-- the inner turns -/
abbrev TurnsI (J1 : It) (g1 : TG) (tt1 : TT) (tk tv : TE) (vs1 : List Nat) (τ : L2.St) (D : Addr) (Nx : Hp → Prop) (H4 : Hp) : Prop :=
  ∃ W1 : Nat → Nat → Hp → Prop, (∃ m, W1 0 m H4) ∧ ∀ j k G, W1 j k G → (J1.stop j G ∧ Nx G) ∨
    (J1.go j G ∧ ∃ Nx1 : Hp → Prop, (∀ G', Nx1 G' → ∃ k', k' < k ∧ W1 (j + 1) k' G') ∧ ∀ x Hx, J1.yld j G x Hx → StepI g1 tt1 tk tv vs1 τ D Nx1 x Hx)
/-- an outer turn's wish -/
abbrev StepO (g : TG) (tt : TT) (wi1 : TI) (g1 : TG) (tt1 : TT) (tk tv : TE) (vs vs1 : List Nat) (σ : L2.St) (D : Addr) (Nx : Hp → Prop) (x : V) (Hx : Hp) : Prop :=
  g x (wipe σ vs) Hx fun τ Ha => wipe τ vs = wipe σ vs ∧ tt τ Ha fun b Hb => if b = true then wi1 τ Hb fun J1 Hc => TurnsI J1 g1 tt1 tk tv vs1 τ D Nx Hc else Nx Hb
abbrev TurnsO (J : It) (g : TG) (tt : TT) (wi1 : TI) (g1 : TG) (tt1 : TT) (tk tv : TE) (vs vs1 : List Nat) (σ : L2.St) (D : Addr) (H1 : Hp) (Qd : Hp → Prop) : Prop :=
  ∃ W : Nat → Nat → Hp → Prop, (∃ m, W 0 m (upd H1 D (.dK []))) ∧ ∀ i m G, W i m G → (J.stop i G ∧ Qd G) ∨
    (J.go i G ∧ ∃ Nx : Hp → Prop, (∀ G', Nx G' → ∃ m', m' < m ∧ W (i + 1) m' G') ∧ ∀ x Hx, J.yld i G x Hx → StepO g tt wi1 g1 tt1 tk tv vs vs1 σ D Nx x Hx)
def tDcO (wi : TI) (g : TG) (tt : TT) (wi1 : TI) (g1 : TG) (tt1 : TT) (tk tv : TE) (vs vs1 : List Nat) : TE := fun σ H Q => wi σ H fun J H1 => ∀ D, H1 D = none → TurnsO J g tt wi1 g1 tt1 tk tv vs vs1 σ D H1 (Q (.ref D))
section
variable {X : Cx}
theorem dcO_core {pins : List (Addr × Obj)} {σ : L2.St} {H : Hp} {Q : VK} {u0 : Shared} {use : Option (Value → Sem Unit)} {Qf : Value → Shared → Prop} {pos' : Pos} {kx vx tg iter tg1 iter1 : Expr} {ifs ifs1 : List Expr} {scope : Scope} {own : List (PySem.Str × Nat)} {vs1 : List Nat} {pos : Pos} {wi wi1 : TI} {g g1 : TG} {tt tt1 : TT} {tk tv : TE} (calm : X.calm = true) (nd : X.N.Nodup) (hi : PI X tg iter wi) (bk : BlkOk X.N X.env.scope scope own)
    (hv : ∀ i ∈ vs1, i ∈ own.map (·.2))
    (hg : ∀ (u : Shared) (G : Hp) (C : Addr) (cl : List (PySem.Str × Addr)) (fp : List Addr), PG (X.blk u G scope (compEnvC scope cl C X.env) fp) tg g)
    (ht : ∀ (u : Shared) (G : Hp) (C : Addr) (cl : List (PySem.Str × Addr)) (fp : List Addr), PTs (X.blk u G scope (compEnvC scope cl C X.env) fp) ifs tt)
    (hi1 : ∀ (u : Shared) (G : Hp) (C : Addr) (cl : List (PySem.Str × Addr)) (fp : List Addr), PI (X.blk u G scope (compEnvC scope cl C X.env) fp) tg1 iter1 wi1)
    (hg1 : ∀ (u : Shared) (G : Hp) (C : Addr) (cl : List (PySem.Str × Addr)) (fp : List Addr), PG (X.blk u G scope (compEnvC scope cl C X.env) fp) tg1 g1)
    (ht1 : ∀ (u : Shared) (G : Hp) (C : Addr) (cl : List (PySem.Str × Addr)) (fp : List Addr), PTs (X.blk u G scope (compEnvC scope cl C X.env) fp) ifs1 tt1)
    (hk : ∀ (u : Shared) (G : Hp) (C : Addr) (cl : List (PySem.Str × Addr)) (fp : List Addr), PE (X.blk u G scope (compEnvC scope cl C X.env) fp) kx tk)
    (he : ∀ (u : Shared) (G : Hp) (C : Addr) (cl : List (PySem.Str × Addr)) (fp : List Addr), PE (X.blk u G scope (compEnvC scope cl C X.env) fp) vx tv)
    (hs : ∀ x, foldedSetIterable iter X.env x = pure x) (hs1 : ∀ (env : Env) x, foldedSetIterable iter1 env x = pure x) (I : Inv X pins σ H u0) (want : tDcO wi g tt wi1 g1 tt1 tk tv (own.map (·.2)) vs1 σ H Q)
    (fin : ∀ (D C : Addr) (s' : Shared) (m : PySem.Str → Option Value) (H' : Hp), Inv X pins σ H' s' → Q (.ref D) H' → s'.heap.Ns C m → FpOk X pins H' C → compPost (model X.prog X.w) X.A X.xe use Qf (.ref D) C (.ok .next) s') :
    wpAny (model X.prog X.w) X.A (comprehension (two kx vx tg iter tg1 iter1 ifs ifs1 scope pos) scope X.env pos' newDict false (eval iter X.env) use) Qf X.xe u0 
:= by
  have cellOf : ∀ y ∈ scope.names, y.2 = .free → ∃ c, X.env.cells.lookup y.1 = some c := fun y hy e => (bk.free y hy e).elim (fun z => I.ok.has _ (.inl z)) (fun z => I.ok.has _ (.inr z))
  refine wpAny_comprehension_free (use := use) rfl hs (closure_ok cellOf) bk.kind (fun y hy e => by rw [bk.uniq y hy, e]) (thn (hi.run pins u0 σ H _ I want) fun xv u1 got => thn got fun itv u2 got2 => ?_)
  obtain ⟨it, fp, tn, J, H2, rfl, I2, T, st2, young, q⟩ := got2
  refine wpAny_newObj_type (newEnv_comp ?_)
  obtain ⟨D, eD⟩ : ∃ D, D = u2.heap.objs.size := ⟨_, rfl⟩
  rw [← eD]
  have noD : H2 D = none := I2.hok.fresh (Nat.le_of_eq eD.symm)
  obtain ⟨W, ⟨m0, w0⟩, turn⟩ := q D noD
  obtain ⟨u3, e3⟩ : ∃ u3 : Shared, u3 = { u2 with heap := u2.heap.push { cls := .type "dict", data := .dict #[] } } := ⟨_, rfl⟩
  rw [← e3]
  obtain ⟨H3, eH⟩ : ∃ H3 : Hp, H3 = upd H2 D (.dK []) := ⟨_, rfl⟩
  rw [← eH] at w0
  have heap3 : u3.heap = u2.heap.push { cls := .type "dict", data := .dict #[] } := by rw [e3]
  have I3 : Inv X pins σ H3 u3 := by
    rw [e3, eH]
    refine I2.laid (t' := u2.toks) (fun b o e => Heap.get?_push_of_some _ e) (Nat.le_of_eq eD.symm) ?_
    rw [eD]
    exact dk_empty _ I2.big
  have young3 : ∀ b ∈ fp, FpOk X pins H3 b ∧ b < u3.heap.objs.size := fun b hb => by
    obtain ⟨o, e, _⟩ := T.obj _ _ st2 b hb
    have lt := Heap.lt_size e
    refine ⟨⟨?_, (young b hb).2⟩, by rw [heap3, Heap.size_push]; exact Nat.lt_succ_of_lt lt⟩
    rw [eH, upd_ne (by rw [eD]; exact Nat.ne_of_lt lt)]
    exact (young b hb).1
  have st3 : tn 0 u3.heap := T.keep _ _ _ st2 fun b _ o e => by rw [heap3]; exact Heap.get?_push_of_some _ e
  have I4 := block_start I3 bk nd young3
  obtain ⟨cl, ecl⟩ : ∃ cl, cl = cellsFrom (u3.heap.objs.size + 1) scope.names (cloFrom X.env.cells scope.names []) := ⟨_, rfl⟩
  rw [← ecl] at I4
  have pg := hg u3 H3 u3.heap.objs.size cl fp
  have pt := ht u3 H3 u3.heap.objs.size cl fp
  have pe := he u3 H3 u3.heap.objs.size cl fp
  have pk := hk u3 H3 u3.heap.objs.size cl fp
  have pg1 := hg1 u3 H3 u3.heap.objs.size cl fp
  have pt1 := ht1 u3 H3 u3.heap.objs.size cl fp
  have pi1 := hi1 u3 H3 u3.heap.objs.size cl fp
  show codeAny _ _ (.compStart (two kx vx tg iter tg1 iter1 ifs ifs1 scope pos) 0 (.ref it) (.ref D) (compEnvC scope (cellsFrom (u3.heap.objs.size + 1) scope.names (cloFrom X.env.cells scope.names [])) u3.heap.objs.size X.env)) (compPost (model X.prog X.w) X.A X.xe use Qf (.ref D) u3.heap.objs.size) { u3 with heap := pushCells (u3.heap.push { cls := .type "dict", data := .dict #[] }) scope.names }
  rw [← ecl]
  obtain ⟨ce, ece⟩ : ∃ ce, ce = compEnvC scope cl u3.heap.objs.size X.env := ⟨_, rfl⟩
  rw [← ece] at I4 pg pt pe pk pg1 pt1 pi1 ⊢
  have cL : ce.locals = u3.heap.objs.size := by subst ece; rfl
  obtain ⟨u4, e4⟩ : ∃ u4 : Shared, u4 = { u3 with heap := pushCells (u3.heap.push { cls := .type "dict", data := .dict #[] }) scope.names } := ⟨_, rfl⟩
  rw [← e4] at I4 ⊢
  have st4 : tn 0 u4.heap := T.keep _ _ _ st3 fun b _ o e => by rw [e4]; exact pushCells_keeps _ _ _ _ (Heap.get?_push_of_some _ e)
  have still : ∀ {τ : L2.St} {G : Hp} {s' : Shared}, Inv (X.blk u3 H3 scope ce fp) [] τ G s' → (∀ b ∈ fp, G b = none) → ∀ b ∈ fp, FpOk (X.blk u3 H3 scope ce fp) [] G b := fun {τ G s'} J' n b hb =>
    ⟨n b hb, (J'.ok.exf b hb).1, J'.ok.exfs b hb, .inl hb, fun x c e => (J'.ok.exf b hb).2 x c e, fun p hp => absurd (show p ∈ ([] : List (Addr × Obj)) ++ [] from hp) (by simp)⟩
  have all : codeAny (model X.prog X.w) X.A (.compLoop (two kx vx tg iter tg1 iter1 ifs ifs1 scope pos) 0 (.ref it) (.ref D) ce)
      (compPost (model X.prog X.w) X.A X.xe use Qf (.ref D) u3.heap.objs.size) u4 := by
    refine outer (hs1 _) (fun n s' => ∃ i G, Inv (X.blk u3 H3 scope ce fp) [] (wipe σ (own.map (·.2))) G s' ∧ tn i s'.heap ∧ (∀ b ∈ fp, G b = none) ∧ W i n G) ?_ m0 ⟨0, H3, I4, st4, fun b hb => (young3 b hb).1.1, w0⟩
    rintro n u5 ⟨i, H5, I5, st5, n5, w5⟩
    rcases turn i n H5 w5 with ⟨stop, fine⟩ | ⟨go, Nx, hNx, step⟩
    · refine thnF (T.done (X.blk u3 H3 scope ce fp) rfl rfl rfl calm i [] u5 _ H5 (fun _ _ => False) I5 (still I5 n5) st5 stop) fun r u6 ⟨hr, I6⟩ => ?_
      subst hr
      have I7 : Inv X pins σ H5 u6 := I3.call' (ch := fp) I6.os I6.base I6.hok I6.bare fun b hb =>
        let z := (young3 b hb).1.2
        ⟨z.2.2.1, z.1, z.2.2.2.1, z.2.2.2.2⟩
      have nC : H5 ce.locals = none := I6.free
      rw [cL] at nC
      obtain ⟨m, hn, _⟩ := I6.loc
      have hn : u6.heap.Ns ce.locals m := hn
      rw [cL] at hn
      exact fin D _ u6 m H5 I7 fine hn (I3.fpOk (Nat.le_refl _) nC)
    · refine thnF (T.item (X.blk u3 H3 scope ce fp) rfl rfl rfl calm i [] u5 _ H5 (fun _ _ => False) I5 (still I5 n5) st5 go) fun r u6 ⟨v, hr, h6⟩ => ?_
      subst hr
      refine thnF h6 fun _ u7 ⟨x, H7, I7, r7, y7, st7, n7⟩ => ?_
      refine thnF (pg.run _ u7 _ H7 x v _ (I7.pinned (still I7 n7) (T.obj _ _ st7)) r7 (step x H7 y7)) fun _ u8 ⟨τ, H8, I8, hw8, q8⟩ => ?_
      refine thnF (pt.run _ u8 τ H8 _ I8 q8) fun b u9 ⟨H9, I9, q9⟩ => ?_
      have next : ∀ {s' : Shared} {G : Hp} {ρ : L2.St}, Inv (X.blk u3 H3 scope ce fp) ([] ++ pinsAt fp u7.heap) ρ G s' → ρ.length = τ.length → (∀ (j : Nat) v, ¬ j ∈ own.map (·.2) → τ[j]? = some (some v) → ρ[j]? = some (some v)) → Nx G → ∃ m, m < n ∧ ∃ i G, Inv (X.blk u3 H3 scope ce fp) [] (wipe σ (own.map (·.2))) G s' ∧ tn i s'.heap ∧ (∀ b ∈ fp, G b = none) ∧ W i m G := fun {s' G ρ} J' lρ hρ nx => by
        obtain ⟨m', lt, w'⟩ := hNx G nx
        have held : ∀ b ∈ fp, ∀ o, u7.heap.get? b = some o → s'.heap.get? b = some o ∧ G b = none := fun b hb o e =>
          let z := J'.pin (b, o) (List.mem_append_right _ (List.mem_append_right _ (mem_pinsAt hb e)))
          ⟨z.1, z.2.1⟩
        refine ⟨m', lt, i + 1, G, (J'.unpinned (pins := [])).weak (by rw [lρ, ← hw8, wipe_length]) (fun j v e => ?_), T.keep _ _ _ st7 fun b hb o e => (held b hb o e).1, fun b hb => ?_, w'⟩
        · rw [← hw8] at e
          exact hρ j v (wipe_some e).2 (wipe_some e).1
        · obtain ⟨o, e, _⟩ := T.obj _ _ st7 b hb
          exact (held b hb o e).2
      cases b with
      | false =>
        simp only [Bool.false_eq_true, if_false] at q9 ⊢
        exact next I9 rfl (fun _ _ _ e => e) q9
      | true =>
        simp only [if_true] at q9 ⊢
        refine thnF (pi1.run _ u9 τ H9 _ I9 q9) fun x1 u10 got => thnF got fun it1v u11 got2 => ?_
        obtain ⟨it1, fp1, tn1, J1, H11, rfl, I11, T1, st11, young1, W1, ⟨k0, w10⟩, turn1⟩ := got2
        have still1 : ∀ {ρ : L2.St} {G : Hp} {s' : Shared}, Inv (X.blk u3 H3 scope ce fp) ([] ++ pinsAt fp u7.heap) ρ G s' → (∀ b ∈ fp1, G b = none) → ∀ b ∈ fp1, FpOk (X.blk u3 H3 scope ce fp) ([] ++ pinsAt fp u7.heap) G b := fun _ n b hb => ⟨n b hb, (young1 b hb).2⟩
        have all1 : codeAny (model X.prog X.w) X.A (.compLoop (two kx vx tg iter tg1 iter1 ifs ifs1 scope pos) 1 (.ref it1) (.ref D) ce)
            (fun r s' => match r with
              | .ok _ => ∃ m, m < n ∧ ∃ i G, Inv (X.blk u3 H3 scope ce fp) [] (wipe σ (own.map (·.2))) G s' ∧ tn i s'.heap ∧ (∀ b ∈ fp, G b = none) ∧ W i m G
              | .error _ => False) u11 := by
          refine inner (fun k s' => ∃ j G, Inv (X.blk u3 H3 scope ce fp) ([] ++ pinsAt fp u7.heap) (wipe τ vs1) G s' ∧ tn1 j s'.heap ∧ (∀ b ∈ fp1, G b = none) ∧ W1 j k G) ?_ k0
            ⟨0, H11, I11.weak (wipe_length _ _) (fun j v e => (wipe_some e).1), st11, fun b hb => (young1 b hb).1, w10⟩
          rintro k u12 ⟨j, G12, I12, st12, n12, w12⟩
          rcases turn1 j k G12 w12 with ⟨stop1, fine1⟩ | ⟨go1, Nx1, hNx1, step1⟩
          · refine thnF (T1.done (X.blk u3 H3 scope ce fp) rfl rfl rfl calm j _ u12 _ G12 (fun _ _ => False) I12 (still1 I12 n12) st12 stop1) fun r u13 ⟨hr, I13⟩ => ?_
            subst hr
            exact next I13 (wipe_length _ _) (fun i v ni e => by rw [wipe_out fun z => ni (hv i z)]; exact e) fine1
          · refine thnF (T1.item (X.blk u3 H3 scope ce fp) rfl rfl rfl calm j _ u12 _ G12 (fun _ _ => False) I12 (still1 I12 n12) st12 go1) fun r u13 ⟨v1, hr, h13⟩ => ?_
            subst hr
            refine thnF h13 fun _ u14 ⟨y, G14, I14, r14, y14, st14, n14⟩ => ?_
            refine thnF (pg1.run _ u14 _ G14 y v1 _ (I14.pinned (still1 I14 n14) (T1.obj _ _ st14)) r14 (step1 y G14 y14)) fun _ u15 ⟨ρ, G15, I15, hw15, q15⟩ => ?_
            refine thnF (pt1.run _ u15 ρ G15 _ I15 q15) fun b u16 ⟨G16, I16, q16⟩ => ?_
            have next1 : ∀ {s' : Shared} {G : Hp}, Inv (X.blk u3 H3 scope ce fp) (([] ++ pinsAt fp u7.heap) ++ pinsAt fp1 u14.heap) ρ G s' → Nx1 G → ∃ m, m < k ∧ ∃ j G, Inv (X.blk u3 H3 scope ce fp) ([] ++ pinsAt fp u7.heap) (wipe τ vs1) G s' ∧ tn1 j s'.heap ∧ (∀ b ∈ fp1, G b = none) ∧ W1 j m G := fun {s' G} J' nx => by
              obtain ⟨m', lt, w'⟩ := hNx1 G nx
              have held : ∀ b ∈ fp1, ∀ o, u14.heap.get? b = some o → s'.heap.get? b = some o ∧ G b = none := fun b hb o e =>
                let z := J'.pin (b, o) (List.mem_append_right _ (List.mem_append_right _ (mem_pinsAt hb e)))
                ⟨z.1, z.2.1⟩
              refine ⟨m', lt, j + 1, G, J'.unpinned.weak (by rw [← hw15, wipe_length]) (fun i v e => ?_), T1.keep _ _ _ st14 fun b hb o e => (held b hb o e).1, fun b hb => ?_, w'⟩
              · rw [← hw15] at e
                exact (wipe_some e).1
              · obtain ⟨o, e, _⟩ := T1.obj _ _ st14 b hb
                exact (held b hb o e).2
            cases b with
            | false =>
              simp only [Bool.false_eq_true, if_false] at q16 ⊢
              exact next1 I16 q16
            | true =>
              simp only [if_true] at q16 ⊢
              refine thnF (pk.run _ u16 ρ G16 _ I16 q16) fun kv u17 ⟨yk, G17, I17, r17, q17⟩ => ?_
              refine thnF (pe.run _ u17 ρ G17 _ I17 q17) fun vv u18 ⟨yv, G18, I18, r18, kvs, key, ey, hD, room, nx⟩ => ?_
              subst ey
              exact d_dictSet (X := X.blk u3 H3 scope ce fp) I18 hD room r17 r18 fun s' I19 => next1 I19 nx
        exact start1 all1 (T1.self X.A 0 _ _ _ st11 all1)
  exact codeAny_compStart_dict all (T.self X.A 0 _ _ _ st4 all)

theorem pe_dcO {kx vx tg iter tg1 iter1 : Expr} {ifs ifs1 : List Expr} {scope : Scope} {own : List (PySem.Str × Nat)} {vs1 : List Nat} {pos : Pos} {wi wi1 : TI} {g g1 : TG} {tt tt1 : TT} {tk tv : TE} (calm : X.calm = true) (nd : X.N.Nodup) (hi : PI X tg iter wi) (bk : BlkOk X.N X.env.scope scope own)
    (hv : ∀ i ∈ vs1, i ∈ own.map (·.2))
    (hg : ∀ (u : Shared) (G : Hp) (C : Addr) (cl : List (PySem.Str × Addr)) (fp : List Addr), PG (X.blk u G scope (compEnvC scope cl C X.env) fp) tg g)
    (ht : ∀ (u : Shared) (G : Hp) (C : Addr) (cl : List (PySem.Str × Addr)) (fp : List Addr), PTs (X.blk u G scope (compEnvC scope cl C X.env) fp) ifs tt)
    (hi1 : ∀ (u : Shared) (G : Hp) (C : Addr) (cl : List (PySem.Str × Addr)) (fp : List Addr), PI (X.blk u G scope (compEnvC scope cl C X.env) fp) tg1 iter1 wi1)
    (hg1 : ∀ (u : Shared) (G : Hp) (C : Addr) (cl : List (PySem.Str × Addr)) (fp : List Addr), PG (X.blk u G scope (compEnvC scope cl C X.env) fp) tg1 g1)
    (ht1 : ∀ (u : Shared) (G : Hp) (C : Addr) (cl : List (PySem.Str × Addr)) (fp : List Addr), PTs (X.blk u G scope (compEnvC scope cl C X.env) fp) ifs1 tt1)
    (hk : ∀ (u : Shared) (G : Hp) (C : Addr) (cl : List (PySem.Str × Addr)) (fp : List Addr), PE (X.blk u G scope (compEnvC scope cl C X.env) fp) kx tk)
    (he : ∀ (u : Shared) (G : Hp) (C : Addr) (cl : List (PySem.Str × Addr)) (fp : List Addr), PE (X.blk u G scope (compEnvC scope cl C X.env) fp) vx tv)
    (hs : ∀ x, foldedSetIterable iter X.env x = pure x := by intro _; rfl) (hs1 : ∀ (env : Env) x, foldedSetIterable iter1 env x = pure x := by intro _ _; rfl) :
    PE X (two kx vx tg iter tg1 iter1 ifs ifs1 scope pos) (tDcO wi g tt wi1 g1 tt1 tk tv (own.map (·.2)) vs1) := by
  refine ⟨fun pins u0 σ H Q I want => ?_⟩
  rw [arm_eval_DictComp]
  exact dcO_core calm nd hi bk hv hg ht hi1 hg1 ht1 hk he hs hs1 I want fun D C s' m H' I' q hn ⟨f0, f1, f2, f3, f4, f5⟩ => ⟨m, hn, fun h'' sb => ⟨.ref D, H', I'.turned (t' := s'.toks) (fun b o hb e => (sb.2 b hb).trans e) f0 f1 f3 f4 f5, rfl, q⟩⟩
theorem sw_dict {kx vx : Expr} {gs : List Comprehension} {scope : Scope} {pos py : Pos} {y : PySem.Str} {l : Nat} {env : Env} (h1 : env.scope.kind = .function) (h2 : env.scope.names.lookup y = some .local) (h3 : (py.line == pos.line) = true)
    (h4 : (scope.names.any fun x => match x with | (n, k) => n == y && (k == NameKind.local || k == NameKind.cell)) = false) : swapsWith (.DictComp kx vx gs scope pos) (some (.Name y py)) l env = pure true := by
  have e := sw_true (elt := kx) (gs := gs) (scope := scope) (pos := pos) (l := l) h1 h2 h3 h4
  exact e
theorem ps_setDc {i : Nat} {y : PySem.Str} {py : Pos} {kx vx tg iter : Expr} {ifs : List Expr} {scope : Scope} {own : List (PySem.Str × Nat)} {pos spos : Pos} {wi : TI} {g : TG} {tt : TT} {tk tv : TE} (hc : X.calm = true) (hN : X.N.Nodup) (hy : X.N[i]? = some y) (hyl : X.env.scope.names.lookup y = some .local)
    (hsw : swapsWith (.DictComp kx vx [⟨tg, iter, ifs, 0⟩] scope pos) (some (.Name y py)) spos.line X.env = pure true) (hi : PI X tg iter wi) (ok : BlkOk X.N X.env.scope scope own)
    (hg : ∀ (u : Shared) (G : Hp) (C : Addr) (cl : List (PySem.Str × Addr)) (fp : List Addr), PG (X.blk u G scope (compEnvC scope cl C X.env) fp) tg g)
    (ht : ∀ (u : Shared) (G : Hp) (C : Addr) (cl : List (PySem.Str × Addr)) (fp : List Addr), PTs (X.blk u G scope (compEnvC scope cl C X.env) fp) ifs tt)
    (hk : ∀ (u : Shared) (G : Hp) (C : Addr) (cl : List (PySem.Str × Addr)) (fp : List Addr), PE (X.blk u G scope (compEnvC scope cl C X.env) fp) kx tk)
    (he : ∀ (u : Shared) (G : Hp) (C : Addr) (cl : List (PySem.Str × Addr)) (fp : List Addr), PE (X.blk u G scope (compEnvC scope cl C X.env) fp) vx tv)
    (hs : ∀ x, foldedSetIterable iter X.env x = pure x := by intro _; rfl) :
    PS X (.Assign [.Name y py] (.DictComp kx vx [⟨tg, iter, ifs, 0⟩] scope pos) spos) (tAsg (tDc wi g tt tk tv (own.map (·.2))) (gName i)) := by
  refine ⟨fun pins s σ H D I h => ?_⟩
  rw [exec_Assign_Name_used y py _ spos hsw]
  refine wpAny_bind (wpAny_standAt (wpAny_bind ?_))
  refine wpAny_bind (thn (dc_core hc hN I hi ok hg ht hk he hs h fun L C s' m H' I' q hn f => ?_) fun x s' hq => wpAny_pure (wpAny_pure hq))
  have rl : RelV (V.ref L) (Value.ref L) := rfl
  show wpAny (model X.prog X.w) X.A (assign (.Name y py) X.env (.ref L)) _ X.xe s'
  refine wpAny_assign_Name (store_ok2 I' hN hy (.inl hyl) rl (fun s2 I2 ⟨a, sb, ha⟩ => ?_) (.inr hyl))
  obtain ⟨f0, f1, f2, f3, f4, f5⟩ := f
  have haC : C ≠ a := by
    rcases ha with z | z
    · rw [z]; exact f1
    · exact fun e => f4 y a z e.symm
  exact ⟨m, hn.sameBut sb haC, fun h3 sb3 => ⟨σ.set i (some (.ref L)), H', I2.turned (fun b o hb e => (sb3.2 b hb).trans e) f0 f1 f3 f4 f5, q⟩⟩
theorem ps_setDcO {i : Nat} {y : PySem.Str} {py spos : Pos} {kx vx tg iter tg1 iter1 : Expr} {ifs ifs1 : List Expr} {scope : Scope} {own : List (PySem.Str × Nat)} {vs1 : List Nat} {pos : Pos} {wi wi1 : TI} {g g1 : TG} {tt tt1 : TT} {tk tv : TE} (calm : X.calm = true) (nd : X.N.Nodup) (hy : X.N[i]? = some y) (hyl : X.env.scope.names.lookup y = some .local) (hsw : swapsWith (two kx vx tg iter tg1 iter1 ifs ifs1 scope pos) (some (.Name y py)) spos.line X.env = pure true) (hi : PI X tg iter wi) (bk : BlkOk X.N X.env.scope scope own)
    (hv : ∀ i ∈ vs1, i ∈ own.map (·.2))
    (hg : ∀ (u : Shared) (G : Hp) (C : Addr) (cl : List (PySem.Str × Addr)) (fp : List Addr), PG (X.blk u G scope (compEnvC scope cl C X.env) fp) tg g)
    (ht : ∀ (u : Shared) (G : Hp) (C : Addr) (cl : List (PySem.Str × Addr)) (fp : List Addr), PTs (X.blk u G scope (compEnvC scope cl C X.env) fp) ifs tt)
    (hi1 : ∀ (u : Shared) (G : Hp) (C : Addr) (cl : List (PySem.Str × Addr)) (fp : List Addr), PI (X.blk u G scope (compEnvC scope cl C X.env) fp) tg1 iter1 wi1)
    (hg1 : ∀ (u : Shared) (G : Hp) (C : Addr) (cl : List (PySem.Str × Addr)) (fp : List Addr), PG (X.blk u G scope (compEnvC scope cl C X.env) fp) tg1 g1)
    (ht1 : ∀ (u : Shared) (G : Hp) (C : Addr) (cl : List (PySem.Str × Addr)) (fp : List Addr), PTs (X.blk u G scope (compEnvC scope cl C X.env) fp) ifs1 tt1)
    (hk : ∀ (u : Shared) (G : Hp) (C : Addr) (cl : List (PySem.Str × Addr)) (fp : List Addr), PE (X.blk u G scope (compEnvC scope cl C X.env) fp) kx tk)
    (he : ∀ (u : Shared) (G : Hp) (C : Addr) (cl : List (PySem.Str × Addr)) (fp : List Addr), PE (X.blk u G scope (compEnvC scope cl C X.env) fp) vx tv)
    (hs : ∀ x, foldedSetIterable iter X.env x = pure x := by intro _; rfl) (hs1 : ∀ (env : Env) x, foldedSetIterable iter1 env x = pure x := by intro _ _; rfl) :
    PS X (.Assign [.Name y py] (two kx vx tg iter tg1 iter1 ifs ifs1 scope pos) spos) (tAsg (tDcO wi g tt wi1 g1 tt1 tk tv (own.map (·.2)) vs1) (gName i)) := by
  refine ⟨fun pins s σ H D I h => ?_⟩
  rw [exec_Assign_Name_used y py _ spos hsw]
  refine wpAny_bind (wpAny_standAt (wpAny_bind ?_))
  refine wpAny_bind (thn (dcO_core calm nd hi bk hv hg ht hi1 hg1 ht1 hk he hs hs1 I h fun L C s' m H' I' q hn f => ?_) fun x s' hq => wpAny_pure (wpAny_pure hq))
  have rl : RelV (V.ref L) (Value.ref L) := rfl
  show wpAny (model X.prog X.w) X.A (assign (.Name y py) X.env (.ref L)) _ X.xe s'
  refine wpAny_assign_Name (store_ok2 I' nd hy (.inl hyl) rl (fun s2 I2 ⟨a, sb, ha⟩ => ?_) (.inr hyl))
  obtain ⟨f0, f1, f2, f3, f4, f5⟩ := f
  have haC : C ≠ a := by
    rcases ha with z | z
    · rw [z]; exact f1
    · exact fun e => f4 y a z e.symm
  exact ⟨m, hn.sameBut sb haC, fun h3 sb3 => ⟨σ.set i (some (.ref L)), H', I2.turned (fun b o hb e => (sb3.2 b hb).trans e) f0 f1 f3 f4 f5, q⟩⟩
end
end LD
-- DV
/-! d.values() of a dict, and the list of it -/
namespace LD
open PySem PySem.Spec PyProof.Rows L2
def rVals : V → List V → Hp → VK → Prop := fun x xs H Q => ∃ (a : Addr) (kvs : List (Key × V)), x = .ref a ∧ xs = [] ∧ H a = some (.dK kvs) ∧ ∀ p, H p = none → Q (.ref p) (upd H p (viewO "dict_values" p a))
def rListV : List V → Hp → VK → Prop := fun xs H Q => ∃ (p a : Addr) (kvs : List (Key × V)), xs = [.ref p] ∧ H p = some (viewO "dict_values" p a) ∧ H a = some (.dK kvs) ∧ ∀ l, H l = none → Q (.ref l) (upd H l (.lst (kvs.map (·.2))))
theorem paired_of {α β : Type} {R : α → β → Prop} : ∀ {as : List α} {bs : List β}, as.length = bs.length → (∀ (i : Nat) a b, as[i]? = some a → bs[i]? = some b → R a b) → Paired R as bs
  | [], [], _, _ => .nil
  | a :: as, b :: bs, l, h => .cons (h 0 a b rfl rfl) (paired_of (Nat.succ.inj l) fun i x y hx hy => h (i + 1) x y hx hy)
theorem paired_get {α β : Type} {R : α → β → Prop} : ∀ {as : List α} {bs : List β}, Paired R as bs → ∀ {i : Nat} {a : α}, as[i]? = some a → ∃ b, bs[i]? = some b ∧ R a b
  | _, _, .nil, i, a, h => by simp at h
  | _, _, .cons h t, 0, a, e => by simp at e; subst e; exact ⟨_, rfl, h⟩
  | _, _, .cons h t, i + 1, a, e => paired_get t (i := i) (by simpa using e)
theorem mt_dvals {X : Cx} : MtR X "dict.values" rVals := by
  intro pins s σ H x xs v us Q I rx rxs h
  obtain ⟨a, kvs, rfl, rfl, ha, q⟩ := h
  obtain rfl : v = .ref a := rx
  cases rxs
  obtain ⟨le, nm, vs, hkv, hd⟩ := dk_of I.hok ha
  refine call_meetsIn F.slot_dict_values hd.typeIs F.entry_dict_values (F.args_dict_values_1 _) (meets_dict_values (mixKind X.prog X.w) a nm) ⟨⟨vs, hd⟩, ?_⟩
  refine ⟨.ref s.heap.objs.size, _, I.laid (t' := s.toks) (fun b o e => Heap.get?_push_of_some _ e) (Nat.le_refl _) (viewO_ok (T := "dict_values") (d := a) (Heap.get?_push_size _ (o := DSub.viewOb "dict_values" a) rfl)), rfl, q _ (I.hok.fresh (Nat.le_refl _))⟩
theorem call_listV {X : Cx} (calm : X.calm = true) : CallR X (.type "list") rListV := by
  intro pins s σ H xs us Q I rxs h
  obtain ⟨p, a, kvs, rfl, hp, ha, q⟩ := h
  obtain rfl := Vals.ref1 rxs
  have op := I.hok _ _ hp
  simp only [viewO, ObjOk] at op
  obtain ⟨le, nm, vs, hkv, hd⟩ := dk_of I.hok ha
  obtain ⟨es, ep, hr, hs, he⟩ := hd.raw
  refine W.kdl_call KdlSrc.rawValues (I.ok.hd calm) ⟨⟨_, op.1, rfl, rfl⟩, hr⟩ (by rw [hs, ← hkv.length]; exact le) fun h' tk acc' c' keep hl items => ?_
  refine ⟨.ref s.heap.objs.size, _, I.laid (t' := tk) keep (Nat.le_refl _) ?_, rfl, q _ (I.hok.fresh (Nat.le_refl _))⟩
  simp only [ObjOk]
  refine ⟨by rw [List.length_map]; exact le, acc'.toList, c', paired_of ?_ fun j x u hx hu => ?_, by rw [Array.toArray_toList]; exact hl⟩
  · have e1 := items.1
    rw [List.length_map, hkv.length, ← hs, ← e1]
    exact Array.length_toList.symm
  · rw [List.getElem?_map] at hx
    cases ek : kvs[j]? with
    | none => rw [ek] at hx; cases hx
    | some kv =>
      rw [ek] at hx
      obtain rfl := Option.some.inj hx
      obtain ⟨kw, ew, e1, e2⟩ := paired_get hkv ek
      rw [Array.getElem?_toList] at hu
      obtain ⟨hi, rfl⟩ := items.2 j u hu
      rw [(he j hi kw.1 kw.2 ew).2]
      exact e2
end LD
-- GP
/-! groups of numbers that joints put together -/
namespace GP
/-- h has one value on each joint -/
def Con (J : List (List Nat)) (h : Nat → Nat) : Prop := ∀ j ∈ J, ∀ x ∈ j, ∀ y ∈ j, h x = h y
/-- f stays within what the joints put together, and doesn't grow -/
structure In (J : List (List Nat)) (f : Nat → Nat) : Prop where
  st : ∀ h, Con J h → ∀ x, h (f x) = h x
  le : ∀ x, f x ≤ x
theorem In.id (J : List (List Nat)) : In J (fun x => x) := ⟨fun _ _ _ => rfl, fun _ => Nat.le_refl _⟩
/-- there is but one that is constant on the joints -/
theorem only {J : List (List Nat)} {f g : Nat → Nat} (hf : In J f) (cf : Con J f) (hg : In J g) (cg : Con J g) (x : Nat) : f x = g x := by
  have a := hg.st f cf x
  have b := hf.st g cg x
  have c := hf.le (g x)
  have d := hg.le (f x)
  omega
/-- all that has a value of the joint's gets the least -/
def merge (f : Nat → Nat) (j : List Nat) (least : Nat) : Nat → Nat := fun x => if f x ∈ j.map f then least else f x
theorem merge_in {J : List (List Nat)} {f : Nat → Nat} {j : List Nat} {least : Nat} (hf : In J f) (hj : j ∈ J) (hl : ∃ t ∈ j, f t = least) (hm : ∀ t ∈ j, least ≤ f t) : In J (merge f j least) := by
  obtain ⟨t0, h0, rfl⟩ := hl
  refine ⟨fun h c x => ?_, fun x => ?_⟩
  · unfold merge
    split
    · rename_i m
      obtain ⟨t, ht, e⟩ := List.mem_map.mp m
      rw [hf.st h c t0, c j hj t0 h0 t ht, ← hf.st h c t, e, hf.st h c x]
    · exact hf.st h c x
  · unfold merge
    split
    · rename_i m
      obtain ⟨t, ht, e⟩ := List.mem_map.mp m
      have := hm t ht
      have := hf.le x
      omega
    · exact hf.le x
theorem merge_con {J : List (List Nat)} {f : Nat → Nat} {j : List Nat} {least : Nat} (c : Con J f) : Con (J ++ [j]) (merge f j least) := by
  intro k hk x hx y hy
  unfold merge
  rcases List.mem_append.mp hk with hk | hk
  · rw [c k hk x hx y hy]
  · obtain rfl := List.mem_singleton.mp hk
    rw [if_pos (List.mem_map_of_mem hx), if_pos (List.mem_map_of_mem hy)]
/-! labels that are spread joint by joint -/
def spread (L : Nat → Nat) (j : List Nat) (low : Nat) : Nat → Nat := fun x => if x ∈ j then low else L x
/-- low is the least of the joint's labels -/
def Low (L : Nat → Nat) (j : List Nat) (low : Nat) : Prop := (∃ t ∈ j, L t = low) ∧ ∀ t ∈ j, low ≤ L t
theorem spread_in {J : List (List Nat)} {L : Nat → Nat} {j : List Nat} {low : Nat} (hf : In J L) (hj : j ∈ J) (hl : Low L j low) : In J (spread L j low) := by
  obtain ⟨⟨t0, h0, rfl⟩, hm⟩ := hl
  refine ⟨fun h c x => ?_, fun x => ?_⟩
  · unfold spread
    split
    · rename_i m
      rw [hf.st h c t0, c j hj t0 h0 x m]
    · exact hf.st h c x
  · unfold spread
    split
    · rename_i m
      exact Nat.le_trans (hm x m) (hf.le x)
    · exact hf.le x
section
variable {J : List (List Nat)} {f : Nat → Nat}
theorem ge {L : Nat → Nat} (hf : In J f) (cf : Con J f) (hL : In J L) (x : Nat) : f x ≤ L x := by
  have a := hL.st f cf x
  have b := hf.le (L x)
  omega
theorem low_eq {L : Nat → Nat} {j : List Nat} {low t : Nat} (hf : In J f) (cf : Con J f) (hL : In J L) (hj : j ∈ J) (hl : Low L j low) (ht : t ∈ j) (g : L t = f t) : low = f t := by
  obtain ⟨⟨t0, h0, rfl⟩, hm⟩ := hl
  have a := hm t ht
  have b := ge hf cf hL t0
  have c := cf j hj t0 h0 t ht
  omega
/-- what is good stays good -/
theorem keep {L : Nat → Nat} {j : List Nat} {low : Nat} (hf : In J f) (cf : Con J f) (hL : In J L) (hj : j ∈ J) (hl : Low L j low) (x : Nat) (g : L x = f x) : spread L j low x = f x := by
  unfold spread
  split
  · rename_i m
    exact low_eq hf cf hL hj hl m g
  · exact g
theorem good {L : Nat → Nat} {j : List Nat} {low t : Nat} (hf : In J f) (cf : Con J f) (hL : In J L) (hj : j ∈ J) (hl : Low L j low) (ht : t ∈ j) (g : L t = f t) (x : Nat) (hx : x ∈ j) : spread L j low x = f x := by
  unfold spread
  rw [if_pos hx, low_eq hf cf hL hj hl ht g]
  exact cf j hj t ht x hx
/-- a joint is touched: one of its labels is good -/
def tch (f L : Nat → Nat) (j : List Nat) : Bool := j.any fun t => decide (L t = f t)
theorem tch_iff {L : Nat → Nat} {j : List Nat} : tch f L j = true ↔ ∃ t ∈ j, L t = f t := by
  unfold tch
  rw [List.any_eq_true]
  exact ⟨fun ⟨t, a, b⟩ => ⟨t, a, of_decide_eq_true b⟩, fun ⟨t, a, b⟩ => ⟨t, a, decide_eq_true b⟩⟩
/-- how many joints are touched -/
def cnt (f L : Nat → Nat) (J : List (List Nat)) : Nat := J.countP (tch f L)
/-- all is good, if the touched joints are all good and the others have nothing good -/
theorem all_good {L : Nat → Nat} (hf : In J f) (cf : Con J f) (hL : In J L) (h : ∀ j ∈ J, tch f L j = true → ∀ x ∈ j, L x = f x) (x : Nat) : L x = f x := by
  have c : Con J (fun x => if L x = f x then 1 else 0) := fun j hj x hx y hy => by
    by_cases t : tch f L j = true
    · simp only [h j hj t x hx, h j hj t y hy, if_true]
    · have n : ∀ z ∈ j, ¬ L z = f z := fun z hz e => t (tch_iff.mpr ⟨z, hz, e⟩)
      simp only [n x hx, n y hy, if_false]
  have e := hf.st _ c x
  have ff : f (f x) = f x := hf.st f cf x
  have a := ge hf cf hL (f x)
  have b := hL.le (f x)
  have g : L (f x) = f (f x) := by omega
  simp only [g, if_true] at e
  by_cases z : L x = f x
  · exact z
  · rw [if_neg z] at e
    cases e
/-- a state between the rounds -/
structure Rd (J : List (List Nat)) (f L : Nat → Nat) (r : Nat) : Prop where
  inn : In J L
  or : (∀ x, L x = f x) ∨ r + 1 ≤ cnt f L J
theorem Rd.start (hf : In J f) (cf : Con J f) : Rd J f (fun x => x) 0 := by
  refine ⟨In.id J, ?_⟩
  by_cases z : cnt f (fun x => x) J = 0
  · refine .inl (all_good hf cf (In.id J) fun j hj t => ?_)
    have := List.countP_eq_zero.mp z j hj
    exact absurd t this
  · exact .inr (by omega)
/-- within a round: D are the joints gone through -/
structure Mid (J D : List (List Nat)) (f L0 L : Nat → Nat) : Prop where
  inn : In J L
  keep : ∀ x, L0 x = f x → L x = f x
  done : ∀ j ∈ D, tch f L0 j = true → ∀ x ∈ j, L x = f x
theorem Mid.start {L : Nat → Nat} (h : In J L) : Mid J [] f L L := ⟨h, fun _ z => z, fun _ z => by cases z⟩
theorem Mid.step {D : List (List Nat)} {L0 L : Nat → Nat} {j : List Nat} {low : Nat} (hf : In J f) (cf : Con J f) (h : Mid J D f L0 L) (hj : j ∈ J) (hl : Low L j low) : Mid J (D ++ [j]) f L0 (spread L j low) := by
  refine ⟨spread_in h.inn hj hl, fun x g => GP.keep hf cf h.inn hj hl x (h.keep x g), fun k hk t x hx => ?_⟩
  rcases List.mem_append.mp hk with hk | hk
  · exact GP.keep hf cf h.inn hj hl x (h.done k hk t x hx)
  · obtain rfl := List.mem_singleton.mp hk
    obtain ⟨t0, ht0, g⟩ := tch_iff.mp t
    exact GP.good hf cf h.inn hj hl ht0 (h.keep t0 g) x hx
theorem Rd.step {L0 L : Nat → Nat} {r : Nat} (hf : In J f) (cf : Con J f) (h : Rd J f L0 r) (m : Mid J J f L0 L) : Rd J f L (r + 1) := by
  refine ⟨m.inn, ?_⟩
  rcases h.or with g | g
  · exact .inl fun x => m.keep x (g x)
  · by_cases e : ∀ j ∈ J, tch f L j = true → tch f L0 j = true
    · exact .inl (all_good hf cf m.inn fun j hj t => m.done j hj (e j hj t))
    · right
      have up : ∀ j, tch f L0 j = true → tch f L j = true := fun j t => by
        obtain ⟨x, hx, gx⟩ := tch_iff.mp t
        exact tch_iff.mpr ⟨x, hx, m.keep x gx⟩
      have lt : ∀ (K : List (List Nat)), (∃ j ∈ K, tch f L j = true ∧ ¬ tch f L0 j = true) → cnt f L0 K < cnt f L K := by
        intro K
        have le : ∀ K : List (List Nat), cnt f L0 K ≤ cnt f L K := fun K => by
          unfold cnt
          exact List.countP_mono_left fun j _ t => up j t
        induction K with
        | nil => exact fun ⟨j, hj, _⟩ => by cases hj
        | cons k r ih =>
          rintro ⟨j, hj, t1, t2⟩
          unfold cnt
          rw [List.countP_cons, List.countP_cons]
          rcases List.mem_cons.mp hj with rfl | hj
          · rw [if_pos t1, if_neg t2]
            have := le r
            unfold cnt at this
            omega
          · have := ih ⟨j, hj, t1, t2⟩
            unfold cnt at this
            by_cases z : tch f L0 k = true
            · rw [if_pos z, if_pos (up k z)]; omega
            · rw [if_neg z]; omega
      have : ∃ j ∈ J, tch f L j = true ∧ ¬ tch f L0 j = true := by
        refine Classical.byContradiction fun n => e fun j hj t => ?_
        exact Classical.byContradiction fun z => n ⟨j, hj, t, z⟩
      have := lt J this
      omega
/-- after as many rounds as there are joints all is good -/
theorem Rd.fin {L : Nat → Nat} (h : Rd J f L J.length) (x : Nat) : L x = f x := by
  rcases h.or with g | g
  · exact g x
  · have : cnt f L J ≤ J.length := List.countP_le_length
    omega
/-- a number in no joint stands alone -/
theorem alone (hf : In J f) {x y : Nat} (n : ∀ j ∈ J, x ∉ j) (e : f y = f x) : y = x := by
  have c : Con J (fun z => if z = x then 1 else 0) := fun j hj u hu v hv => by
    have a : ¬ u = x := fun z => n j hj (by rw [← z]; exact hu)
    have b : ¬ v = x := fun z => n j hj (by rw [← z]; exact hv)
    simp only [a, b, if_false]
  have h1 := hf.st _ c y
  have h2 := hf.st _ c x
  rw [e] at h1
  simp only [if_true] at h2
  by_cases z : y = x
  · exact z
  · rw [if_neg z] at h1
    omega
end
end GP
-- GQ
/-! rows of groups -/
namespace GP
variable {α : Type}
/-- the members ahead of n of the group k -/
def cls (ts : List α) (f : Nat → Nat) (k n : Nat) : List α := (List.range n).filterMap fun i => if f i = k then ts[i]? else none
theorem cls_in {ts : List α} {f : Nat → Nat} {k n : Nat} {t : α} (e : f n = k) (h : ts[n]? = some t) : cls ts f k (n + 1) = cls ts f k n ++ [t] := by
  unfold cls
  rw [List.range_succ, List.filterMap_append]
  congr 1
  rw [List.filterMap_cons, if_pos e, h]
  rfl
theorem cls_out {ts : List α} {f : Nat → Nat} {k n : Nat} (e : f n ≠ k) : cls ts f k (n + 1) = cls ts f k n := by
  unfold cls
  rw [List.range_succ, List.filterMap_append]
  rw [show List.filterMap (fun i => if f i = k then ts[i]? else none) [n] = [] by rw [List.filterMap_cons, if_neg e]; rfl, List.append_nil]
theorem cls_len (ts : List α) (f : Nat → Nat) (k n : Nat) : (cls ts f k n).length ≤ n := by
  have := List.length_filterMap_le (fun i => if f i = k then ts[i]? else none) (List.range n)
  rw [List.length_range] at this
  exact this
theorem cls_mem {ts : List α} {f : Nat → Nat} {k n : Nat} {t : α} : t ∈ cls ts f k n ↔ ∃ i, i < n ∧ f i = k ∧ ts[i]? = some t := by
  unfold cls
  rw [List.mem_filterMap]
  constructor
  · rintro ⟨i, hi, h⟩
    by_cases e : f i = k
    · rw [if_pos e] at h
      exact ⟨i, List.mem_range.mp hi, e, h⟩
    · rw [if_neg e] at h; cases h
  · rintro ⟨i, hi, e, h⟩
    exact ⟨i, List.mem_range.mpr hi, by rw [if_pos e]; exact h⟩
theorem cls_none {ts : List α} {f : Nat → Nat} {k n : Nat} (h : ∀ i, i < n → f i ≠ k) : cls ts f k n = [] := by
  refine List.eq_nil_iff_forall_not_mem.mpr fun t ht => ?_
  obtain ⟨i, hi, e, _⟩ := cls_mem.mp ht
  exact h i hi e
theorem cls_congr {ts : List α} {f g : Nat → Nat} {k n : Nat} (h : ∀ i, i < n → f i = g i) : cls ts f k n = cls ts g k n := by
  induction n with
  | zero => rfl
  | succ n ih =>
    have ih := ih fun i hi => h i (Nat.lt_succ_of_lt hi)
    unfold cls at ih ⊢
    rw [List.range_succ, List.filterMap_append, List.filterMap_append, ih]
    congr 1
    rw [List.filterMap_cons, List.filterMap_cons, h n (Nat.lt_succ_self n), List.filterMap_nil, List.filterMap_nil]
/-- the group of its own least one -/
theorem cls_one {ts : List α} {f : Nat → Nat} {k n : Nat} (hk : k < n) (e : f k = k) {t : α} (h : ts[k]? = some t) (n1 : ∀ i, i < n → f i = k → i = k) : cls ts f k n = [t] := by
  induction n with
  | zero => omega
  | succ n ih =>
    by_cases z : k = n
    · subst z
      rw [cls_in e h, cls_none fun i hi g => by have := n1 i (by omega) g; omega]
      rfl
    · rw [cls_out fun g => z (n1 n (by omega) g).symm]
      exact ih (by omega) fun i hi g => n1 i (by omega) g
theorem cls_two {ts : List α} {f : Nat → Nat} {k n x : Nat} (hn : n ≤ ts.length) (hk : k < n) (hx : x < n) (kx : k < x) (e : f k = k) (ex : f x = k) : 1 < (cls ts f k n).length := by
  induction n with
  | zero => omega
  | succ n ih =>
    by_cases z : x = n
    · subst z
      have h : ts[x]? = some (ts[x]'(by omega)) := by simp
      rw [cls_in ex h, List.length_append]
      have : ts[k]'(by omega) ∈ cls ts f k x := cls_mem.mpr ⟨k, kx, e, by simp⟩
      have := List.length_pos_of_mem this
      simp; omega
    · have := ih (by omega) (by omega) (by omega)
      by_cases g : f n = k
      · have h : ts[n]? = some (ts[n]'(by omega)) := by simp
        rw [cls_in g h, List.length_append]; omega
      · rw [cls_out g]; exact this
/-- kept: in a joint, or no port of the part's own -/
def kp (J : List (List Nat)) (m k : Nat) : Bool := J.any (fun j => j.contains k) || decide (m ≤ k)
theorem kp_iff {J : List (List Nat)} {m k : Nat} : kp J m k = true ↔ (∃ j ∈ J, k ∈ j) ∨ m ≤ k := by
  unfold kp
  rw [Bool.or_eq_true, List.any_eq_true, decide_eq_true_iff]
  refine or_congr ⟨fun ⟨j, a, b⟩ => ⟨j, a, by simpa using b⟩, fun ⟨j, a, b⟩ => ⟨j, a, by simpa using b⟩⟩ Iff.rfl
def lead (J : List (List Nat)) (m : Nat) (f : Nat → Nat) (n : Nat) : List Nat := (List.range n).filter fun k => decide (f k = k) && kp J m k
theorem lead_in {J : List (List Nat)} {m n : Nat} {f : Nat → Nat} (e : f n = n) (h : kp J m n = true) : lead J m f (n + 1) = lead J m f n ++ [n] := by
  unfold lead
  rw [List.range_succ, List.filter_append]
  congr 1
  rw [List.filter_cons, decide_eq_true e, h]
  rfl
theorem lead_out {J : List (List Nat)} {m n : Nat} {f : Nat → Nat} (h : f n ≠ n ∨ kp J m n = false) : lead J m f (n + 1) = lead J m f n := by
  unfold lead
  rw [List.range_succ, List.filter_append]
  rw [show List.filter (fun k => decide (f k = k) && kp J m k) [n] = [] by
    rw [List.filter_cons]
    rcases h with h | h
    · rw [decide_eq_false h]; rfl
    · rw [h, Bool.and_false]; rfl, List.append_nil]
theorem lead_mem {J : List (List Nat)} {m n k : Nat} {f : Nat → Nat} : k ∈ lead J m f n ↔ k < n ∧ f k = k ∧ kp J m k = true := by
  unfold lead
  rw [List.mem_filter, List.mem_range, Bool.and_eq_true, decide_eq_true_iff]
theorem lead_len (J : List (List Nat)) (m : Nat) (f : Nat → Nat) (n : Nat) : (lead J m f n).length ≤ n := by
  unfold lead
  have := List.length_filter_le (fun k => decide (f k = k) && kp J m k) (List.range n)
  rw [List.length_range] at this
  exact this
theorem ff {J : List (List Nat)} {f : Nat → Nat} (hf : In J f) (cf : Con J f) (x : Nat) : f (f x) = f x := hf.st f cf x
/-- a group is kept whole -/
theorem kp_lead {J : List (List Nat)} {f : Nat → Nat} {m : Nat} (hf : In J f) (cf : Con J f) (x : Nat) : kp J m x = kp J m (f x) := by
  by_cases z : x = f x
  · rw [← z]
  · have a : kp J m x = true := kp_iff.mpr (.inl (Classical.byContradiction fun n => z (alone hf (y := f x) (x := x) (fun j hj h => n ⟨j, hj, h⟩) (ff hf cf x)).symm))
    have b : kp J m (f x) = true := kp_iff.mpr (.inl (Classical.byContradiction fun n => z (alone hf (y := x) (x := f x) (fun j hj h => n ⟨j, hj, h⟩) (ff hf cf x).symm)))
    rw [a, b]
/-- the program's rows -/
def rowsP (ts : List α) (J : List (List Nat)) (m : Nat) (f : Nat → Nat) : List (List α) := (lead J m f ts.length).map fun k => cls ts f k ts.length
def due [DecidableEq α] (po : List α) (node : List α) : Bool := decide (1 < node.length) || (decide (node.length = 1) && node.all fun t => !po.contains t)
/-- the rows that are asked -/
def rowsL [DecidableEq α] (ts po : List α) (f : Nat → Nat) (n : Nat) : List (List α) := ((List.range n).map fun k => cls ts f k ts.length).filter (due po)
theorem rowsL_len [DecidableEq α] (ts po : List α) (f : Nat → Nat) (n : Nat) : (rowsL ts po f n).length ≤ n := by
  unfold rowsL
  have := List.length_filter_le (due po) ((List.range n).map fun k => cls ts f k ts.length)
  rw [List.length_map, List.length_range] at this
  exact this
theorem rowsL_snoc [DecidableEq α] {ts po : List α} {f : Nat → Nat} {n : Nat} : rowsL ts po f (n + 1) = rowsL ts po f n ++ if due po (cls ts f n ts.length) = true then [cls ts f n ts.length] else [] := by
  unfold rowsL
  rw [List.range_succ, List.map_append, List.filter_append, List.map_singleton, List.filter_cons]
  rfl
theorem rowsL_congr [DecidableEq α] {ts po : List α} {f g : Nat → Nat} {n : Nat} (h : ∀ x, f x = g x) : rowsL ts po f n = rowsL ts po g n := by
  have : f = g := funext h
  rw [this]
theorem rows_eq [DecidableEq α] {ts po rest : List α} {J : List (List Nat)} {f : Nat → Nat} (hf : In J f) (cf : Con J f) (et : ts = po ++ rest) (nd : ts.Nodup) (two : ∀ j ∈ J, ∀ x ∈ j, x < ts.length ∧ ∃ y ∈ j, y ≠ x) : rowsP ts J po.length f = rowsL ts po f ts.length := by
  have key : ∀ n, n ≤ ts.length → (lead J po.length f n).map (fun k => cls ts f k ts.length) = rowsL ts po f n := by
    intro n
    induction n with
    | zero => intro _; rfl
    | succ n ih =>
      intro hn
      rw [rowsL_snoc, ← ih (by omega)]
      have en : ts[n]? = some (ts[n]'(by omega)) := by simp
      by_cases e : f n = n
      · by_cases h : kp J po.length n = true
        · rw [lead_in e h, List.map_append, List.map_singleton]
          rw [if_pos]
          rcases kp_iff.mp h with ⟨j, hj, hnj⟩ | ge
          · obtain ⟨_, y, hy, ne⟩ := two j hj n hnj
            obtain ⟨ly, _⟩ := two j hj y hy
            have ey : f y = n := by rw [cf j hj y hy n hnj, e]
            have := hf.le y
            have := cls_two (ts := ts) (f := f) (Nat.le_refl _) (show n < ts.length by omega) ly (by omega) e ey
            unfold due
            rw [decide_eq_true this]; rfl
          · unfold due
            by_cases lt : 1 < (cls ts f n ts.length).length
            · rw [decide_eq_true lt]; rfl
            · have m1 : ts[n]'(by omega) ∈ cls ts f n ts.length := cls_mem.mpr ⟨n, by omega, e, en⟩
              have p := List.length_pos_of_mem m1
              rw [decide_eq_true (show (cls ts f n ts.length).length = 1 by omega), Bool.true_and, Bool.or_eq_true]
              refine .inr (List.all_eq_true.mpr fun t ht => ?_)
              have : t = ts[n]'(by omega) := by
                obtain ⟨u, eu⟩ := List.length_eq_one_iff.mp (show (cls ts f n ts.length).length = 1 by omega)
                rw [eu] at m1 ht
                rw [List.mem_singleton.mp m1, List.mem_singleton.mp ht]
              subst this
              rw [Bool.not_eq_true', ← Bool.not_eq_true]
              intro c
              have c : ts[n]'(by omega) ∈ po := by simpa using c
              obtain ⟨i, hi, ei⟩ := List.getElem_of_mem c
              have : ts[i]? = some (ts[n]'(by omega)) := by
                rw [← ei, ← List.getElem?_eq_getElem hi]
                exact (congrArg (fun z : List α => z[i]?) et).trans (List.getElem?_append_left hi)
              have il : i < ts.length := by rw [et, List.length_append]; omega
              rw [List.getElem?_eq_getElem il] at this
              have := (List.getElem_inj nd).mp (Option.some.inj this)
              omega
        · have h : kp J po.length n = false := by simpa using h
          rw [lead_out (.inr h)]
          have nj : ¬ ((∃ j ∈ J, n ∈ j) ∨ po.length ≤ n) := fun z => by rw [kp_iff.mpr z] at h; cases h
          have c1 : cls ts f n ts.length = [ts[n]'(by omega)] := cls_one (by omega) e en fun i hi g => alone hf (fun j hj z => nj (.inl ⟨j, hj, z⟩)) (by rw [g, e])
          rw [if_neg, List.append_nil]
          rw [c1]
          have ltn : n < po.length := by
            rcases Nat.lt_or_ge n po.length with z | z
            · exact z
            · exact absurd (.inr z) nj
          have mp : ts[n]'(by omega) ∈ po := by
            have : po[n]? = some (ts[n]'(by omega)) := by
              rw [← en]
              exact ((congrArg (fun z : List α => z[n]?) et).trans (List.getElem?_append_left ltn)).symm
            exact List.mem_of_getElem? this
          unfold due
          simp [mp]
      · rw [lead_out (.inl e)]
        have c0 : cls ts f n ts.length = [] := cls_none fun i _ g => e (by have := ff hf cf i; rw [g] at this; exact this)
        rw [c0, if_neg (by unfold due; simp), List.append_nil]
  exact key _ (Nat.le_refl _)
/-- joints that say the same -/
theorem con_sub {J J' : List (List Nat)} {h : Nat → Nat} (c : Con J h) (s : ∀ j ∈ J', ∃ k ∈ J, ∀ x ∈ j, x ∈ k) : Con J' h := fun j hj x hx y hy => by
  obtain ⟨k, hk, i⟩ := s j hj
  exact c k hk x (i x hx) y (i y hy)
theorem in_sub {J J' : List (List Nat)} {f : Nat → Nat} (c : In J f) (s : ∀ j ∈ J, ∃ k ∈ J', ∀ x ∈ j, x ∈ k) : In J' f := ⟨fun h ch x => c.st h (con_sub ch s) x, c.le⟩
theorem same_rows [DecidableEq α] {ts po : List α} {J : List (List Nat)} {f g : Nat → Nat} (hf : In J f) (cf : Con J f) (hg : In J g) (cg : Con J g) (n : Nat) : rowsL ts po f n = rowsL ts po g n := rowsL_congr fun x => only hf cf hg cg x
end GP
namespace GP
theorem low_ex (f : Nat → Nat) : ∀ {j : List Nat}, j ≠ [] → ∃ t ∈ j, ∀ s ∈ j, f t ≤ f s
  | [a], _ => ⟨a, List.mem_singleton.mpr rfl, fun s h => by rw [List.mem_singleton.mp h]; exact Nat.le_refl _⟩
  | a :: b :: r, _ => by
    obtain ⟨t, ht, h⟩ := low_ex f (j := b :: r) (List.cons_ne_nil _ _)
    rcases Nat.le_total (f a) (f t) with z | z
    · refine ⟨a, List.mem_cons_self, fun s hs => ?_⟩
      rcases List.mem_cons.mp hs with rfl | hs
      · exact Nat.le_refl _
      · exact Nat.le_trans z (h s hs)
    · refine ⟨t, List.mem_cons_of_mem _ ht, fun s hs => ?_⟩
      rcases List.mem_cons.mp hs with rfl | hs
      · exact z
      · exact h s hs
theorem ex_f {J : List (List Nat)} (ne : ∀ j ∈ J, j ≠ []) : ∃ f, In J f ∧ Con J f := by
  have key : ∀ k, k ≤ J.length → ∃ f, In J f ∧ Con (J.take k) f := by
    intro k
    induction k with
    | zero => exact fun _ => ⟨fun x => x, In.id J, fun j hj => by cases hj⟩
    | succ k ih =>
      intro hk
      obtain ⟨f, fi, fc⟩ := ih (by omega)
      have e : J[k]? = some (J[k]'(by omega)) := by simp
      have m : J[k]'(by omega) ∈ J := List.getElem_mem _
      obtain ⟨t, ht, h⟩ := low_ex f (ne _ m)
      refine ⟨merge f (J[k]'(by omega)) (f t), merge_in fi m ⟨t, ht, rfl⟩ h, ?_⟩
      have : J.take (k + 1) = J.take k ++ [J[k]'(by omega)] := by rw [List.take_succ, e]; rfl
      rw [this]
      exact merge_con fc
  obtain ⟨f, fi, fc⟩ := key _ (Nat.le_refl _)
  rw [List.take_length] at fc
  exact ⟨f, fi, fc⟩
end GP
-- TE
/-! try .. except E as n .. else .. -/
namespace LX
open PySem PySem.Spec PyProof.Rows L2
/-- try .. except c as slot i: ts .. else: u0 -/
def tTryE (K : PySem.W.Frag) (c : Value) (i : Nat) (ts : Addr → Value → Option Addr → TS) (Wo : WX) (u0 : TS) (tb : WX → TS) : TS := fun D σ H => tb (wAs K c i ts Wo D) { D with nx := u0 D } σ H
variable {X : Cx} {x n : Str} {c : Value} {i : Nat} {body suite : List Stmt} {b₀ : Stmt} {np pos pos' : Pos} {tb : WX → TS} {ts : Addr → Value → Option Addr → TS} {Wo : WX}
theorem ps_try_asE {orelse : List Stmt} {u0 : TS} (ho : PSs X orelse u0) (hs : X.stack = X.env :: X.outer) (hf : X.env.frame = some X.env.locals) (hN : X.N.Nodup) (hi : X.N[i]? = some n) (hln : X.env.kindOf n = some .local) (hc : Names X x c) (tk : Takes X Wo)
    (hb : ∀ (W : WX) (pw : List (Addr × Obj)) (xe : Value → Shared → Prop), Takes (X.tr pw xe) W → PassesOwn (model X.prog X.w) X.A X.env xe → PSs (X.tr pw xe) body (tb W))
    (hst : ∀ (a : Addr) (ob : Obj) (kc : Value) (d : Option Addr) (pw : List (Addr × Obj)), Zc kc d ob → (∃ vs, ob.data = .fields vs) → PSs (X.suite a ((a, ob) :: pw)) (b₀ :: suite) (ts a kc d)) :
    PS X (.Try body [.ExceptHandler (some (.Name x np)) (some n) (b₀ :: suite) pos'] orelse [] pos) (tTryE X.K c i ts Wo u0 tb) := by
  refine ⟨fun pz s σ H D I h => ?_⟩
  have okv := I.ok
  have fr0 : X.A.frames = some (X.env :: X.outer) := by rw [okv.frames, hs]
  have lc0 : Loc X.env.scope n := .inl hln
  refine wpAny_Try_except ?_
  refine wpAny_mono ((hb (wAs X.K c i ts Wo D) (X.pn ++ pz) (fun e z₁ => wpAny (model X.prog X.w) X.A (noteFrame e X.env) (fun _ z₂ => wpAny (model X.prog X.w) X.A (setFlight e none) (fun _ z₃ =>
    wpAny (model X.prog X.w) X.A (handleBy e X.env [.ExceptHandler (some (.Name x np)) (some n) (b₀ :: suite) pos']) (SP X pz D) X.xe z₃) X.xe z₂) X.xe z₁) (fun u sv xq => ?_) PassesOwn.looking).run [] s σ H { D with nx := u0 D } (I.toTry _) h) (fun f w1 got => ?_) (fun e w1 bE => bE)
  · -- the catch
    obtain ⟨a, B, s9, pins', τv, Hv, kc, d, rfl, Jv, nbw, upw, skw, naw, osw, agw, b, hbw, yes0, no0⟩ := xq
    have Jn : Inv X pz τv Hv s9 := Jv.ofTry okv
    have skv : Sky B (X.env :: X.outer) a (Zc kc d) X.env.locals sv.heap := by rw [← hs]; exact skw
    show wpAny _ X.A (noteFrame (Value.ref a) X.env) _ _ _
    refine Sky.land Zc.steady fr0 hf skv fun g3 gl3 vp3 => ?_
    have K3 : Inv X pz τv Hv { sv with heap := g3 } := Jn.landed nbw gl3.1 (upw.trans vp3) osw agw
    obtain ⟨ob3, ws3, be3, bz3, bd3⟩ := gl3.there
    have offF : ∀ {h : Heap} {o : Obj} {vs : Array Value}, h.FunFrames B (X.env :: X.outer) → h.get? a = some o → o.data = .fields vs → a ∉ frs (X.env :: X.outer) := fun {h o vs} fF e dv hmm => by
      obtain ⟨_, o2, e2, hnn2⟩ := fF.mem hmm
      rw [e] at e2; cases e2
      exact hnn2 _ dv
    have offr := offF gl3.2.2.1 be3 bd3
    have offL : a ≠ X.env.locals := fun z => offr (List.mem_filterMap.mpr ⟨X.env, List.mem_cons_self, by rw [hf, z]⟩)
    have offS : a ∉ X.fs := fun hmm => by
      obtain ⟨e, bE, q⟩ := List.mem_filterMap.mp hmm
      exact offr (List.mem_filterMap.mpr ⟨e, List.mem_cons_of_mem _ bE, q⟩)
    have R3 := K3.suite be3 bd3 naw offL offS
    refine wpAny_handleBy_cons (codeAny_handlers_test ?_) fun y => nomatch y
    have lookT : PySem.W.Looks (model X.prog X.w) g3 (typeOf (.ref a)) kc := fun A Q E s k q => wpAny_typeOf_ref (k _ _ be3) (by rw [bz3.1]; exact q)
    have lookM := PySem.W.exm_one (M := model X.prog X.w) (K3.kIn) lookT hbw
    have tst : ∀ {Q : Value → Shared → Prop} {E : Value → Shared → Prop}, Q c { sv with heap := g3 } → wpAny (model X.prog X.w) (X.A.mark (some (.ref a))) (eval (.Name x np) X.env) Q E { sv with heap := g3 } := fun {Q E} q => by
      obtain ⟨bG, bDbg, hmm | ⟨hmm, bV, bN⟩⟩ := hc
      · exact ld_glob (X := X.suite a ((a, ob3) :: (X.pn ++ pz))) R3 bG hmm q bDbg
      · exact ld_blt (X := X.suite a ((a, ob3) :: (X.pn ++ pz))) R3 bG hmm bV q bN bDbg
    refine tst (lookM.here ?_)
    cases b with
    | true =>
      apply codeAny_handlers_suite_as
      refine HandSPX.lands_againZ gl3 fun g4 gl4 vp4 => ?_
      have K4 : Inv X pz τv Hv { sv with heap := g4 } := Jn.landed nbw gl4.1 ((upw.trans vp3).trans vp4) osw agw
      obtain ⟨ob4, ws4, be4, bz4, bd4⟩ := gl4.there
      have R4 := K4.suite be4 bd4 naw offL offS
      refine store_ok (X := X.suite a ((a, ob4) :: (X.pn ++ pz))) (v := .ref a) R4 hN hi lc0 rfl (fun w5 R5 => ?_) (.inr hln)
      refine wpAny_mono ((hst a ob4 kc d (X.pn ++ pz) bz4 ⟨_, bd4⟩).run [] w5 _ Hv _ R5 (yes0 rfl a naw)) (fun f w6 got => ?_) (fun _ _ z => False.elim z)
      have fin6 : ∀ {τ6 : L2.St} {G6 : Hp} {Q : Shared → Prop}, Inv (X.suite a ((a, ob4) :: (X.pn ++ pz))) [] τ6 G6 w6 → (∀ w7, Inv X pz (τ6.set i none) G6 w7 → Q w7) →
          wpAny (model X.prog X.w) X.A (do bindName X.env n .none; unbindBehindTheSuite X.env n pos') (fun _ w7 => Q w7) X.xe w6 := fun {τ6 G6 Q} R6 hq => gone_ok (R6.unsuite okv) hN hi hln hq
      cases f with
      | next =>
        obtain ⟨τ6, G6, R6, z6⟩ := got
        exact fin6 R6 fun w7 K7 => ⟨_, _, K7, z6⟩
      | brk =>
        obtain ⟨τ6, G6, R6, z6⟩ := got
        exact fin6 R6 fun w7 K7 => ⟨_, _, K7, z6⟩
      | cont =>
        obtain ⟨τ6, G6, R6, z6⟩ := got
        exact fin6 R6 fun w7 K7 => ⟨_, _, K7, z6⟩
      | ret u =>
        obtain ⟨y6, τ6, G6, R6, x6, z6⟩ := got
        exact fin6 R6 fun w7 K7 => ⟨_, _, _, K7, x6, z6⟩
    | false =>
      show wpAny _ X.A (handleBy (Value.ref a) X.env []) _ _ _
      refine wpAny_handleBy_nil ?_
      obtain ⟨m1, m2, m3, ob, vs, T, oU, tz, bE, bZ, bD, b1, bR⟩ := id gl3
      unfold PySem.passOn
      refine wpAny_bind (wpAny_field bE bD b1 ?_)
      rw [if_neg (by simp : ¬ ((Value.ref T == Value.none) = true))]
      have fin : wpAny (model X.prog X.w) X.A (setFlight (.ref a) X.env.frame) (fun _ w4 => wpAny (model X.prog X.w) X.A (throw (.ref a) : Sem Flow) (SP X pz D) X.xe w4) X.xe { sv with heap := g3 } := by
        rw [hf]
        refine HandSPX.setFlight_upZ gl3 fun g4 hh9 vp4 => wpAny_throw (tk _ _ ?_)
        exact ⟨a, B, s9, pz, τv, Hv, kc, d, rfl, Jn, nbw, (upw.trans vp3).trans vp4, .inr (.inr (by rw [hs]; exact hh9)), naw, osw, agw, no0 rfl⟩
      first
        | exact wpAny_bind (wpAny_pure (wpAny_bind (fin)))
        | exact wpAny_bind fin
  · cases f with
    | next =>
      obtain ⟨τv, Hv, Jv, q⟩ := got
      exact ho.run pz w1 τv Hv D (Jv.ofTry okv) q
    | brk =>
      obtain ⟨τv, Hv, Jv, q⟩ := got
      exact ⟨τv, Hv, Jv.ofTry okv, q⟩
    | cont =>
      obtain ⟨τv, Hv, Jv, q⟩ := got
      exact ⟨τv, Hv, Jv.ofTry okv, q⟩
    | ret u =>
      obtain ⟨v, τv, Hv, Jv, r, q⟩ := got
      exact ⟨v, τv, Hv, Jv.ofTry okv, r, q⟩
end LX
-- B8
namespace K08
open PySem PySem.Spec PyProof.Rows L2
def topS (i : Nat) : Stmt := PySem.Challenge.pw_unsaidsizes_k08_nodes_of_a_part.main.body.getD i (.Pass ⟨0, 0, 0, 0⟩)
abbrev s_wording : Stmt := topS 1
theorem sc_wording : FnScope ["name", "at"] ["name", "at"] (defScope s_wording) := ⟨rfl, rfl, rfl, by decide +kernel, rfl, by decide +kernel, by decide +kernel⟩
abbrev s_port_texts : Stmt := topS 5
theorem sc_port_texts : FnScope ["part", "before", "_", "ports", "places", "name", "there", "port"] ["part", "before"] (defScope s_port_texts) := ⟨rfl, rfl, rfl, by decide +kernel, rfl, by decide +kernel, by decide +kernel⟩
abbrev s_by_name : Stmt := topS 6
theorem sc_by_name : FnScope ["book", "name", "found", "part"] ["book", "name"] (defScope s_by_name) := ⟨rfl, rfl, rfl, by decide +kernel, rfl, by decide +kernel, by decide +kernel⟩
abbrev s_groups : Stmt := topS 7
theorem sc_groups : FnScope ["texts", "joints", "text", "group", "joint", "met", "least", "k"] ["texts", "joints"] (defScope s_groups) := ⟨rfl, rfl, rfl, by decide +kernel, rfl, by decide +kernel, by decide +kernel⟩
abbrev s_nodes_of : Stmt := topS 8
theorem sc_nodes_of : FnScope ["part", "before", "texts", "joints", "text", "joined", "group", "found", "k", "joint"] ["part", "before"] (defScope s_nodes_of) := ⟨rfl, rfl, rfl, by decide +kernel, rfl, by decide +kernel, by decide +kernel⟩
abbrev s_nodes : Stmt := topS 9
theorem sc_nodes : FnScope ["book", "name", "found"] ["book", "name"] (defScope s_nodes) := ⟨rfl, rfl, rfl, by decide +kernel, rfl, by decide +kernel, by decide +kernel⟩
abbrev s_law_draws : Stmt := topS 11
theorem sc_law_draws : FnScope ["script", "draws", "k", "rest", "turn", "mixed"] ["script"] (defScope s_law_draws) := ⟨rfl, rfl, rfl, by decide +kernel, rfl, by decide +kernel, by decide +kernel⟩
abbrev s_law_at : Stmt := topS 12
theorem sc_law_at : FnScope ["draws", "k", "many"] ["draws", "k", "many"] (defScope s_law_at) := ⟨rfl, rfl, rfl, by decide +kernel, rfl, by decide +kernel, by decide +kernel⟩
abbrev s_law_pool : Stmt := topS 13
theorem sc_law_pool : FnScope ["draws", "k", "letters", "start", "long", "ends", "i"] ["draws", "k"] (defScope s_law_pool) := ⟨rfl, rfl, rfl, by decide +kernel, rfl, by decide +kernel, by decide +kernel⟩
abbrev s_law_own : Stmt := topS 14
theorem sc_law_own : FnScope ["part", "found", "port"] ["part"] (defScope s_law_own) := ⟨rfl, rfl, rfl, by decide +kernel, rfl, by decide +kernel, by decide +kernel⟩
abbrev s_law_part_laws : Stmt := topS 15
theorem sc_law_part_laws : FnScope ["draws", "k", "part", "pool", "many", "known", "laws", "used", "turn", "cell", "source", "places", "step", "place", "numbers", "terms"] ["draws", "k", "part", "pool", "many"] (defScope s_law_part_laws) := ⟨rfl, rfl, rfl, by decide +kernel, rfl, by decide +kernel, by decide +kernel⟩
abbrev s_law_part : Stmt := topS 16
theorem sc_law_part : FnScope ["draws", "k", "name", "book", "pool", "ports", "inner", "places", "texts", "turn", "kind", "part", "joints", "cell", "joint", "step", "text", "port"] ["draws", "k", "name", "book"] (defScope s_law_part) := ⟨rfl, rfl, rfl, by decide +kernel, rfl, by decide +kernel, by decide +kernel⟩
abbrev s_law_book : Stmt := topS 17
theorem sc_law_book : FnScope ["draws", "first", "most", "book", "turn", "name"] ["draws", "first", "most"] (defScope s_law_book) := ⟨rfl, rfl, rfl, by decide +kernel, rfl, by decide +kernel, by decide +kernel⟩
abbrev s_law_texts : Stmt := topS 18
theorem sc_law_texts : FnScope ["book", "part", "texts", "name", "kind", "other", "port"] ["book", "part"] (defScope s_law_texts) := ⟨rfl, rfl, rfl, by decide +kernel, rfl, by decide +kernel, by decide +kernel⟩
abbrev s_law_nodes : Stmt := topS 19
theorem sc_law_nodes : FnScope ["book", "part", "texts", "labels", "turn", "joint", "text", "low", "rows", "k", "node", "i"] ["book", "part"] (defScope s_law_nodes) := ⟨rfl, rfl, rfl, by decide +kernel, rfl, by decide +kernel, by decide +kernel⟩
abbrev s_law_great : Stmt := topS 20
theorem sc_law_great : FnScope ["draws", "pool", "kind", "ports", "places", "texts", "place", "joints", "turn", "joint", "step", "text", "k", "port"] ["draws"] (defScope s_law_great) := ⟨rfl, rfl, rfl, by decide +kernel, rfl, by decide +kernel, by decide +kernel⟩
abbrev s_law_more : Stmt := topS 21
theorem sc_law_more : FnScope ["draws", "part", "joint", "joints", "extra", "more"] ["draws", "part"] (defScope s_law_more) := ⟨rfl, rfl, rfl, by decide +kernel, rfl, by decide +kernel, by decide +kernel⟩
abbrev s_law : Stmt := topS 22
theorem sc_law : FnScope ["script", "draws", "book", "kept", "part", "due", "told", "node", "other", "place", "turn", "e"] ["script"] (defScope s_law) := ⟨rfl, rfl, rfl, by decide +kernel, rfl, by decide +kernel, by decide +kernel⟩
/-- a def as it stands behind the top -/
structure Def (K : PySem.W.Frag) (mg : Str → Option Value) (x : Str) (st : Stmt) (ps : List Str) where
  a : Addr
  fd : FuncData
  F : Fun K x x st a fd
  b : Binds K fd ps []
  g : mg x = some (.ref a)
structure Txt (K : PySem.W.Frag) (mg : Str → Option Value) where
  wording : Def K mg "_wording" s_wording ["name", "at"]
  port_texts : Def K mg "port_texts" s_port_texts ["part", "before"]
  by_name : Def K mg "_by_name" s_by_name ["book", "name"]
  groups : Def K mg "_groups" s_groups ["texts", "joints"]
  nodes_of : Def K mg "_nodes_of" s_nodes_of ["part", "before"]
  nodes : Def K mg "nodes" s_nodes ["book", "name"]
  law_draws : Def K mg "_law_draws" s_law_draws ["script"]
  law_at : Def K mg "_law_at" s_law_at ["draws", "k", "many"]
  law_pool : Def K mg "_law_pool" s_law_pool ["draws", "k"]
  law_own : Def K mg "_law_own" s_law_own ["part"]
  law_part_laws : Def K mg "_law_part_laws" s_law_part_laws ["draws", "k", "part", "pool", "many"]
  law_part : Def K mg "_law_part" s_law_part ["draws", "k", "name", "book"]
  law_book : Def K mg "_law_book" s_law_book ["draws", "first", "most"]
  law_texts : Def K mg "_law_texts" s_law_texts ["book", "part"]
  law_nodes : Def K mg "_law_nodes" s_law_nodes ["book", "part"]
  law_great : Def K mg "_law_great" s_law_great ["draws"]
  law_more : Def K mg "_law_more" s_law_more ["draws", "part"]
  law : Def K mg "law" s_law ["script"]
  m_abs : mg "abs" = none
  m_enumerate : mg "enumerate" = none
  m_int : mg "int" = none
  m_isinstance : mg "isinstance" = none
  m_len : mg "len" = none
  m_list : mg "list" = none
  m_min : mg "min" = none
  m_range : mg "range" = none
  m_repr : mg "repr" = none

/-! ### words -/
theorem same_upd {H : Hp} {p : Addr} {o : HO} (h : H p = none) : Same H (upd H p o) := fun b x e => by
  rw [upd_ne (ne_of_none e h)]
  exact e
theorem same_over {H H' : Hp} {p : Addr} {o : HO} (s : Same H H') (h : H p = none) : Same H (upd H' p o) := fun b x e => by
  rw [upd_ne (ne_of_none e h)]
  exact s _ _ e
theorem Same.seqT {K : PySem.W.Frag} {H H' : Hp} {a : Addr} {xs : List V} (e : Same H H') (h : SqT K H a xs) : SqT K H' a xs := by
  rcases h with (h | ⟨o, h⟩) | h
  · exact .inl (.inl (e _ _ h))
  · exact .inl (.inr ⟨o, e _ _ h⟩)
  · exact .inr h
/-- two lists in step -/
inductive A2 {α β : Type} (R : α → β → Prop) : List α → List β → Prop
  | nil : A2 R [] []
  | cons {a b as bs} : R a b → A2 R as bs → A2 R (a :: as) (b :: bs)
namespace A2
variable {α β γ : Type} {R S : α → β → Prop} {as : List α} {bs : List β}
theorem mono (f : ∀ a b, R a b → S a b) : ∀ {as : List α} {bs : List β}, A2 R as bs → A2 S as bs
  | _, _, .nil => .nil
  | _, _, .cons h t => .cons (f _ _ h) (mono f t)
theorem len : ∀ {as : List α} {bs : List β}, A2 R as bs → as.length = bs.length
  | _, _, .nil => rfl
  | _, _, .cons _ t => by rw [List.length_cons, List.length_cons, len t]
theorem get : ∀ {as : List α} {bs : List β}, A2 R as bs → ∀ {i : Nat} {a : α}, as[i]? = some a → ∃ b, bs[i]? = some b ∧ R a b
  | _, _, .nil, i, a, h => by simp at h
  | _, _, .cons h t, 0, a, e => by simp at e; subst e; exact ⟨_, rfl, h⟩
  | _, _, .cons h t, i + 1, a, e => get t (i := i) (by simpa using e)
theorem get' : ∀ {as : List α} {bs : List β}, A2 R as bs → ∀ {i : Nat} {b : β}, bs[i]? = some b → ∃ a, as[i]? = some a ∧ R a b
  | _, _, .nil, i, a, h => by simp at h
  | _, _, .cons h t, 0, a, e => by simp at e; subst e; exact ⟨_, rfl, h⟩
  | _, _, .cons h t, i + 1, a, e => get' t (i := i) (by simpa using e)
theorem snoc {a : α} {b : β} (h : R a b) : ∀ {as : List α} {bs : List β}, A2 R as bs → A2 R (as ++ [a]) (bs ++ [b])
  | _, _, .nil => .cons h .nil
  | _, _, .cons x t => .cons x (snoc h t)
theorem mem : ∀ {as : List α} {bs : List β}, A2 R as bs → ∀ a ∈ as, ∃ b ∈ bs, R a b
  | _, _, .cons h t, a, m => by
    rcases List.mem_cons.mp m with rfl | m
    · exact ⟨_, List.mem_cons_self, h⟩
    · obtain ⟨b, hb, r⟩ := mem t a m
      exact ⟨b, List.mem_cons_of_mem _ hb, r⟩
theorem of_map {f : β → α} (h : ∀ b, b ∈ bs → R (f b) b) : A2 R (bs.map f) bs := by
  induction bs with
  | nil => exact .nil
  | cons b r ih => exact .cons (h b List.mem_cons_self) (ih fun c hc => h c (List.mem_cons_of_mem _ hc))
end A2
theorem take_snoc {α : Type} {xs : List α} {i : Nat} {x : α} (h : xs[i]? = some x) : xs.take (i + 1) = xs.take i ++ [x] := by
  rw [List.take_add_one, h]; rfl
/-- a list of ints stands at a -/
def IL (H : Hp) (a : Addr) (ns : List Int) : Prop := H a = some (.lst (ns.map V.int))
theorem IL.sq {K : PySem.W.Frag} {H : Hp} {a : Addr} {ns : List Int} (h : IL H a ns) : SqL K H a (ns.map V.int) := SqL.of h
theorem IL.same {H H' : Hp} {a : Addr} {ns : List Int} (h : IL H a ns) (s : Same H H') : IL H' a ns := s _ _ h
theorem il_upd {H : Hp} {p : Addr} {ns : List Int} : IL (upd H p (.lst (ns.map V.int))) p ns := upd_same
theorem app_ints {ds : List Int} {x : Int} : ds.map V.int ++ [V.int x] = (ds ++ [x]).map V.int := by rw [List.map_append]; rfl
theorem small {n : Nat} (h : n ≤ 60000) : n ≤ sizeLine := Nat.le_trans h (by decide)
theorem small' {n : Nat} (h : n < 60000) : n < sizeLine := Nat.lt_of_lt_of_le h (by decide)

theorem mem_at {α : Type} {xs : List α} {i : Nat} {x : α} (h : xs[i]? = some x) : x ∈ xs := List.mem_of_getElem? h
theorem at_getD {α : Type} {xs : List α} {j : Nat} {d : α} (h : j < xs.length) : xs[j]? = some (xs.getD j d) := by
  rw [List.getD_eq_getElem?_getD, List.getElem?_eq_getElem h]; rfl
theorem ix_ok {n j : Nat} {i : Int} (e : i = (j : Int)) (h : j < n) : ixN n i = some j := by
  unfold ixN
  rw [if_pos (by omega), if_pos (by omega), e]; rfl
/-! new lists -/
/-- lists of flat things, all new, in a new list -/
def Rows (H H' : Hp) (p : Addr) (rows : List (List V)) : Prop := ∃ rs : List Addr, H' p = some (.lst (rs.map V.ref)) ∧ A2 (fun r row => H' r = some (.lst row)) rs rows ∧ ∀ r ∈ rs, H r = none ∧ r ≠ p
/-- each of es once -/
def Inj (es : List Addr) : Prop := ∀ (i j : Nat) (e : Addr), es[i]? = some e → es[j]? = some e → i = j
/-- lists of such, all new -/
def Tabs (H H' : Hp) (p : Addr) (tab : List (List (List V))) : Prop := ∃ rs : List Addr, H' p = some (.lst (rs.map V.ref)) ∧ (∀ r ∈ rs, H r = none ∧ r ≠ p) ∧ Inj rs ∧
  A2 (fun r row => ∃ es : List Addr, H' r = some (.lst (es.map V.ref)) ∧ A2 (fun e x => H' e = some (.lst x)) es row ∧ ∀ e ∈ es, H e = none ∧ e ≠ p ∧ e ∉ rs) rs tab
/-- all but D stand as they stood -/
def SameX (D : Addr) (H H' : Hp) : Prop := ∀ c o, c ≠ D → H c = some o → H' c = some o
theorem sx {D : Addr} {H H' : Hp} (s : Same H H') : SameX D H H' := fun c o _ h => s c o h
theorem SameX.trans {D : Addr} {H H1 H2 : Hp} (a : SameX D H H1) (b : SameX D H1 H2) : SameX D H H2 := fun c o n h => b c o n (a c o n h)
theorem SameX.put {D : Addr} {H : Hp} {o : HO} : SameX D H (upd H D o) := fun c x n h => by
  rw [upd_ne n]; exact h
theorem SameX.seqT {K : PySem.W.Frag} {D : Addr} {H H' : Hp} {a : Addr} {xs : List V} (e : SameX D H H') (n : a ≠ D) (h : SqT K H a xs) : SqT K H' a xs := by
  rcases h with (h | ⟨o, h⟩) | h
  · exact .inl (.inl (e _ _ n h))
  · exact .inl (.inr ⟨o, e _ _ n h⟩)
  · exact .inr h
section
variable {J : It} {n : Nat} {G : Hp → Prop} {Y : Nat → Hp → V → Hp → Prop} {g : TG} {tt : TT} {te : TE} {vs : List Nat} {σ : L2.St} {H1 : Hp} {D : Addr} {Qd : Hp → Prop}
/-- what a comprehension wants of its turns -/
abbrev LcW (J : It) (g : TG) (tt : TT) (te : TE) (vs : List Nat) (σ : L2.St) (H1 : Hp) (D : Addr) (Qd : Hp → Prop) : Prop :=
  ∃ W : Nat → Nat → Hp → Prop, (∃ m, W 0 m (upd H1 D (.lst []))) ∧ ∀ i m H, W i m H →
      (J.stop i H ∧ Qd H) ∨ (J.go i H ∧ ∃ Nx : Hp → Prop, (∀ H', Nx H' → ∃ m', m' < m ∧ W (i + 1) m' H') ∧ ∀ x H', J.yld i H x H' → g x (wipe σ vs) H' fun σ2 H2 => wipe σ2 vs = wipe σ vs ∧ tt σ2 H2 fun b H3 =>
        if b = true then te σ2 H3 fun y H4 => ∃ acc, H4 D = some (.lst acc) ∧ acc.length < sizeLine ∧ Nx (upd H4 D (.lst (acc ++ [y]))) else Nx H3)
theorem lc_inv (w : Walk J n G Y) (R : Nat → Hp → List V → Prop) (nD : H1 D = none) (hG : ∀ H', Same H1 H' → G H') (hl : n < sizeLine) (h0 : R 0 (upd H1 D (.lst [])) [])
    (hs : ∀ i x H Hx ys, i < n → Same H1 H → H D = some (.lst ys) → R i H ys → Y i H x Hx → ∀ (Qt : VK) (Qf : Hp → Prop), (∀ y H4, Same H H4 → R (i + 1) (upd H4 D (.lst (ys ++ [y]))) (ys ++ [y]) → Qt y H4) →
      (∀ H3, Same H H3 → R (i + 1) H3 ys → Qf H3) → g x (wipe σ vs) Hx fun σ2 H2 => wipe σ2 vs = wipe σ vs ∧ tt σ2 H2 fun b H3 => if b = true then te σ2 H3 Qt else Qf H3)
    (hd : ∀ H ys, Same H1 H → H D = some (.lst ys) → R n H ys → Qd H) : LcW J g tt te vs σ H1 D Qd := by
  refine lc_it w (fun i H => Same H1 H ∧ ∃ ys, ys.length ≤ i ∧ H D = some (.lst ys) ∧ R i H ys) ⟨same_upd nD, [], Nat.le_refl _, upd_same, h0⟩ (fun i H _ p => hG H p.1) (fun i x H Hx hi p y => ?_) (fun H p => ?_)
  · obtain ⟨sm, ys, hn, hD, hR⟩ := p
    refine hs i x H Hx ys hi sm hD hR y (fun y H4 => ∃ acc, H4 D = some (.lst acc) ∧ acc.length < sizeLine ∧ Same H1 (upd H4 D (.lst (acc ++ [y]))) ∧ ∃ zs, zs.length ≤ i + 1 ∧ upd H4 D (.lst (acc ++ [y])) D = some (.lst zs) ∧ R (i + 1) (upd H4 D (.lst (acc ++ [y]))) zs) _ (fun y H4 s4 r => ?_) (fun H3 s3 r => ?_)
    · exact ⟨ys, s4 _ _ hD, by omega, same_over (sm.trans s4) nD, ys ++ [y], by rw [List.length_append]; exact Nat.succ_le_succ hn, upd_same, r⟩
    · exact ⟨sm.trans s3, ys, by omega, s3 _ _ hD, r⟩
  · obtain ⟨sm, ys, _, hD, hR⟩ := p
    exact hd H ys sm hD hR
/-- item by item -/
theorem lc_fm {α β : Type} (w : Walk J n G Y) (ls : List α) (f : α → Option β) (rel : Hp → V → β → Prop) (mono : ∀ H H' v b, SameX D H H' → rel H v b → rel H' v b) (hn : ls.length = n) (nD : H1 D = none)
    (hG : ∀ H', Same H1 H' → G H') (hl : n < sizeLine)
    (hs : ∀ i x H Hx ys l, ls[i]? = some l → Same H1 H → H D = some (.lst ys) → Y i H x Hx → ∀ (Qt : VK) (Qf : Hp → Prop), (∀ y H4 b, f l = some b → Same H H4 → rel H4 y b → Qt y H4) →
      (f l = none → ∀ H3, Same H H3 → Qf H3) → g x (wipe σ vs) Hx fun σ2 H2 => wipe σ2 vs = wipe σ vs ∧ tt σ2 H2 fun b H3 => if b = true then te σ2 H3 Qt else Qf H3)
    (hd : ∀ H ys, Same H1 H → H D = some (.lst ys) → A2 (rel H) ys (ls.filterMap f) → Qd H) : LcW J g tt te vs σ H1 D Qd := by
  refine lc_inv w (fun i H ys => A2 (rel H) ys ((ls.take i).filterMap f)) nD hG hl .nil (fun i x H Hx ys hi sm hD hR y Qt Qf qt qf => ?_) (fun H ys sm hD hR => ?_)
  · obtain ⟨l, hl⟩ : ∃ l, ls[i]? = some l := ⟨ls[i]'(by omega), by simp [show i < ls.length by omega]⟩
    refine hs i x H Hx ys l hl sm hD y Qt Qf (fun y H4 b hb s4 r => ?_) (fun hb H3 s3 => ?_)
    · refine qt y H4 s4 ?_
      rw [take_snoc hl, List.filterMap_append]
      show A2 _ _ (_ ++ List.filterMap f [l])
      rw [show List.filterMap f [l] = [b] by simp [hb]]
      exact A2.snoc (mono _ _ _ _ SameX.put r) (hR.mono fun _ _ z => mono _ _ _ _ ((sx s4).trans SameX.put) z)
    · refine qf H3 s3 ?_
      rw [take_snoc hl, List.filterMap_append]
      show A2 _ _ (_ ++ List.filterMap f [l])
      rw [show List.filterMap f [l] = [] by simp [hb], List.append_nil]
      exact hR.mono fun _ _ z => mono _ _ _ _ (sx s3) z
  · rw [List.take_of_length_le (by omega)] at hR
    exact hd H ys sm hD hR
end
/-- a text so many times -/
theorem op_mulS {X : Cx} : OpR X (binaryOp .Mult) (fun x y H Q => ∃ (z : Str) (n : Int), x = .str z ∧ y = .int n ∧ z.length ≤ 20 ∧ -1000 ≤ n ∧ n ≤ 1000 ∧ Q (.str (Txt.mul z n)) H) := by
  intro pins s σ H x y v u Q I rx ry h
  obtain ⟨z, n, rfl, rfl, h1, h2, h3, q⟩ := h
  obtain ⟨t, rfl⟩ := rx
  obtain ⟨t', rfl⟩ := ry
  exact SB.mul (mulOk_of 20 1000 h1 h3 (by omega) (by decide) (by decide)) fun t k => ⟨.str _, H, I.tok _, ⟨_, rfl⟩, q⟩
def rLenS (K : PySem.W.Frag) : List V → Hp → VK → Prop := fun xs H Q => ∃ p ys, xs = [.ref p] ∧ (SqL K H p ys ∨ SqT K H p ys) ∧ Q (.int (ys.length : Nat)) H
theorem call_lenC {X : Cx} : CallR X (.builtin "len") (rLenS X.K) := call_len_seq
theorem r65 {k : Nat} {A : Around} (r : Room k A) : A.units + 65 < cLine := by have := r.un; omega
theorem log_small {n : Nat} (h : n < 2 ^ 30) : n.log2 < 1920 := by
  rcases Nat.eq_zero_or_pos n with rfl | p
  · decide
  · exact Nat.lt_of_lt_of_le ((Nat.log2_lt (by omega)).mpr h) (by decide)
theorem log_lt {n m : Nat} (h : n < 2 ^ m) (hm : 0 < m) : n.log2 < m := by
  rcases Nat.eq_zero_or_pos n with rfl | z
  · rw [Nat.log2_zero]; exact hm
  · exact (Nat.log2_lt (by omega)).mpr h
def rListC (K : PySem.W.Frag) : List V → Hp → VK → Prop := fun xs H Q => ∃ p ys, xs = [.ref p] ∧ (SqL K H p ys ∨ SqT K H p ys) ∧ ∀ l, H l = none → Q (.ref l) (upd H l (.lst ys))
theorem call_listC {X : Cx} : CallR X (.type "list") (rListC X.K) := call_list_of
theorem take_all {α : Type} {p : α → Prop} {xs : List α} {i : Nat} {x : α} (h : xs[i]? = some x) (a : ∀ y ∈ xs.take i, p y) (b : p x) : ∀ y ∈ xs.take (i + 1), p y := fun y hy => by
  rw [take_snoc h] at hy
  rcases List.mem_append.mp hy with hy | hy
  · exact a y hy
  · rw [List.mem_singleton.mp hy]; exact b
theorem wipe1 {σ : L2.St} {i : Nat} {x : Option V} : wipe ((wipe σ [i]).set i x) [i] = wipe σ [i] := by
  show ((σ.set i none).set i x).set i none = σ.set i none
  rw [List.set_set, List.set_set]
theorem lc_rel {K : PySem.W.Frag} {a : Addr} {xs : List V} {te : TE} {i : Nat} {σ : L2.St} {H1 : Hp} {D : Addr} {Qd : Hp → Prop} (R : Nat → V → Prop) (nD : H1 D = none) (hS : SqL K H1 a xs) (hl : xs.length < sizeLine)
    (ht : ∀ (j : Nat) (x : V) (H' : Hp) (Q : VK), xs[j]? = some x → Same H1 H' → (∀ y, R j y → Q y H') → te ((wipe σ [i]).set i (some x)) H' Q)
    (hd : ∀ H' ys, Same H1 H' → H' D = some (.lst ys) → ys.length = xs.length → (∀ j y, ys[j]? = some y → R j y) → Qd H') :
    ∃ W : Nat → Nat → Hp → Prop, (∃ m, W 0 m (upd H1 D (.lst []))) ∧ ∀ i' m H, W i' m H →
      ((Itl K a).stop i' H ∧ Qd H) ∨ ((Itl K a).go i' H ∧ ∃ Nx : Hp → Prop, (∀ H', Nx H' → ∃ m', m' < m ∧ W (i' + 1) m' H') ∧ ∀ x H', (Itl K a).yld i' H x H' → (gName i) x (wipe σ [i]) H' fun σ2 H2 => wipe σ2 [i] = wipe σ [i] ∧ tYes σ2 H2 fun b H3 =>
        if b = true then te σ2 H3 fun y H4 => ∃ acc, H4 D = some (.lst acc) ∧ acc.length < sizeLine ∧ Nx (upd H4 D (.lst (acc ++ [y]))) else Nx H3) := by
  refine lc_list (xs := xs) (fun j H => Same H1 H ∧ ∃ ys, H D = some (.lst ys) ∧ ys.length = j ∧ ∀ k y, ys[k]? = some y → R k y) ⟨same_upd nD, [], upd_same, rfl, fun k y h => by simp at h⟩ (fun j H _ p => p.1.seq hS) (fun j x H hx p => ?_) (fun H p => ?_)
  · obtain ⟨sm, ys, hy, hn, hr⟩ := p
    refine ⟨wipe1, ?_⟩
    refine ht j x H _ hx sm fun y r => ?_
    have hj := (List.getElem?_eq_some_iff.mp hx).1
    refine ⟨ys, hy, by omega, same_over sm nD, _, upd_same, by simp [hn], fun k z hz => ?_⟩
    rcases Nat.lt_or_ge k ys.length with q | q
    · rw [List.getElem?_append_left q] at hz
      exact hr k z hz
    · have e : k = ys.length := by
        have := (List.getElem?_eq_some_iff.mp hz).1
        simp at this
        omega
      subst e
      rw [List.getElem?_append_right (Nat.le_refl _)] at hz
      simp at hz
      rw [← hz, hn]
      exact r
  · obtain ⟨sm, ys, hy, hn, hr⟩ := p
    exact hd H ys sm hy hn hr
theorem lc_relR {n : Nat} {te : TE} {i : Nat} {σ : L2.St} {H1 : Hp} {D : Addr} {Qd : Hp → Prop} (R : Nat → V → Prop) (nD : H1 D = none) (hl : n < sizeLine)
    (ht : ∀ (j : Nat) (H' : Hp) (Q : VK), j < n → Same H1 H' → (∀ y, R j y → Q y H') → te ((wipe σ [i]).set i (some (.int (j : Nat)))) H' Q)
    (hd : ∀ H' ys, Same H1 H' → H' D = some (.lst ys) → ys.length = n → (∀ j y, ys[j]? = some y → R j y) → Qd H') :
    ∃ W : Nat → Nat → Hp → Prop, (∃ m, W 0 m (upd H1 D (.lst []))) ∧ ∀ i' m H, W i' m H →
      ((Itr 0 n).stop i' H ∧ Qd H) ∨ ((Itr 0 n).go i' H ∧ ∃ Nx : Hp → Prop, (∀ H', Nx H' → ∃ m', m' < m ∧ W (i' + 1) m' H') ∧ ∀ x H', (Itr 0 n).yld i' H x H' → (gName i) x (wipe σ [i]) H' fun σ2 H2 => wipe σ2 [i] = wipe σ [i] ∧ tYes σ2 H2 fun b H3 =>
        if b = true then te σ2 H3 fun y H4 => ∃ acc, H4 D = some (.lst acc) ∧ acc.length < sizeLine ∧ Nx (upd H4 D (.lst (acc ++ [y]))) else Nx H3) := by
  refine lc_range (n := n) (lo := 0) (fun j H => Same H1 H ∧ ∃ ys, H D = some (.lst ys) ∧ ys.length = j ∧ ∀ k y, ys[k]? = some y → R k y) ⟨same_upd nD, [], upd_same, rfl, fun k y h => by simp at h⟩ (fun j H hj p => ?_) (fun H p => ?_)
  · obtain ⟨sm, ys, hy, hn, hr⟩ := p
    rw [Int.zero_add]
    refine ⟨wipe1, ?_⟩
    refine ht j H _ hj sm fun y r => ?_
    refine ⟨ys, hy, by omega, same_over sm nD, _, upd_same, by simp [hn], fun k z hz => ?_⟩
    rcases Nat.lt_or_ge k ys.length with q | q
    · rw [List.getElem?_append_left q] at hz
      exact hr k z hz
    · have e : k = ys.length := by
        have := (List.getElem?_eq_some_iff.mp hz).1
        simp at this
        omega
      subst e
      rw [List.getElem?_append_right (Nat.le_refl _)] at hz
      simp at hz
      rw [← hz, hn]
      exact r
  · obtain ⟨sm, ys, hy, hn, hr⟩ := p
    exact hd H ys sm hy hn hr
/-! ### the errors of the text -/
abbrev s_init : Stmt := inClass (topS 2) 0
theorem sc_init : FnScope ["self", "at"] ["self", "at"] (defScope s_init) := ⟨rfl, rfl, rfl, by decide +kernel, rfl, by decide +kernel, by decide +kernel⟩
structure Errs (K : PySem.W.Frag) (mg : Str → Option Value) where
  e0 : LX.Err0 K mg s_init
  NoPart : LX.ErrC K mg "NoPart" e0.CM e0.f
  exS : PySem.W.exmOne K (.ref NoPart.C) (.ref NoPart.C) = some true
/-! ### a book -/
abbrev Hd := Int ⊕ Str
def vH : Hd → V
  | .inl n => .int n
  | .inr s => .str s
def dH : Hd → PyData
  | .inl n => .int n
  | .inr s => .str s
structure Trm where
  h : Hd
  k : Nat
  q : Str
structure Lw where
  ex : Bool
  k : Nat
  q : Str
  ts : List Trm
  src : Str
structure Prt where
  nm : Str
  po : List Str
  inn : List Str
  pl : List (Str × Str)
  ls : List Lw
  jo : List (List Str)
section
def SL (H : Hp) (a : Addr) (ss : List Str) : Prop := H a = some (.lst (ss.map V.str))
def JoV (H : Hp) (v : V) (j : List Str) : Prop := ∃ a, v = .ref a ∧ SL H a j
def JoL (H : Hp) (p : Addr) (js : List (List Str)) : Prop := ∃ xs, H p = some (.lst xs) ∧ A2 (JoV H) xs js
variable (K : PySem.W.Frag)
def TmV (H : Hp) (v : V) (t : Trm) : Prop := ∃ a, v = .ref a ∧ SqT K H a [vH t.h, .int (t.k : Nat), .str t.q]
def TsL (H : Hp) (p : Addr) (ts : List Trm) : Prop := ∃ xs, H p = some (.lst xs) ∧ A2 (TmV K H) xs ts
def LW (H : Hp) (v : V) (l : Lw) : Prop := ∃ a p, v = .ref a ∧ TsL K H p l.ts ∧
  (l.ex = true ∧ SqT K H a [.str "exact", .ref p, .str l.src] ∨ l.ex = false ∧ SqT K H a [.str "sized", .int (l.k : Nat), .str l.q, .ref p, .str l.src])
def LsL (H : Hp) (p : Addr) (ls : List Lw) : Prop := ∃ xs, H p = some (.lst xs) ∧ A2 (LW K H) xs ls
def PlV (H : Hp) (v : V) (p : Str × Str) : Prop := ∃ a, v = .ref a ∧ SqT K H a [.str p.1, .str p.2]
def PlL (H : Hp) (p : Addr) (ps : List (Str × Str)) : Prop := ∃ xs, H p = some (.lst xs) ∧ A2 (PlV K H) xs ps
def PT (H : Hp) (v : V) (p : Prt) : Prop := ∃ a po inn pl la jo, v = .ref a ∧ SqT K H a [.str p.nm, .ref po, .ref inn, .ref pl, .ref la, .ref jo] ∧
  SL H po p.po ∧ SL H inn p.inn ∧ PlL K H pl p.pl ∧ LsL K H la p.ls ∧ JoL H jo p.jo
def BK (H : Hp) (b : Addr) (bk : List Prt) : Prop := ∃ xs, H b = some (.lst xs) ∧ A2 (PT K H) xs bk
/-- a place of a quantity -/
def NmV (H : Hp) (v : V) (p : Nat × Str) : Prop := ∃ a, v = .ref a ∧ SqT K H a [.int (p.1 : Nat), .str p.2]
end
section
variable {K : PySem.W.Frag} {H H' : Hp}
theorem SL.same (s : Same H H') {a : Addr} {ss : List Str} (h : SL H a ss) : SL H' a ss := s _ _ h
theorem SL.sq {a : Addr} {ss : List Str} (h : SL H a ss) : SqL K H a (ss.map V.str) := .of h
theorem TmV.same (s : Same H H') {v : V} {t : Trm} (h : TmV K H v t) : TmV K H' v t := let ⟨a, e, q⟩ := h; ⟨a, e, Same.seqT s q⟩
theorem TsL.same (s : Same H H') {p : Addr} {ts : List Trm} (h : TsL K H p ts) : TsL K H' p ts := let ⟨xs, q, r⟩ := h; ⟨xs, s _ _ q, r.mono fun _ _ z => z.same s⟩
theorem LW.same (s : Same H H') {v : V} {l : Lw} (h : LW K H v l) : LW K H' v l := by
  obtain ⟨a, p, e, q, r⟩ := h
  exact ⟨a, p, e, q.same s, r.imp (fun z => ⟨z.1, Same.seqT s z.2⟩) fun z => ⟨z.1, Same.seqT s z.2⟩⟩
theorem LsL.same (s : Same H H') {p : Addr} {ls : List Lw} (h : LsL K H p ls) : LsL K H' p ls := let ⟨xs, q, r⟩ := h; ⟨xs, s _ _ q, r.mono fun _ _ z => z.same s⟩
theorem PlV.same (s : Same H H') {v : V} {p : Str × Str} (h : PlV K H v p) : PlV K H' v p := let ⟨a, e, q⟩ := h; ⟨a, e, Same.seqT s q⟩
theorem PlL.same (s : Same H H') {p : Addr} {ps : List (Str × Str)} (h : PlL K H p ps) : PlL K H' p ps := let ⟨xs, q, r⟩ := h; ⟨xs, s _ _ q, r.mono fun _ _ z => z.same s⟩
theorem JoV.same (s : Same H H') {v : V} {j : List Str} (h : JoV H v j) : JoV H' v j := let ⟨a, e, q⟩ := h; ⟨a, e, q.same s⟩
theorem JoL.same (s : Same H H') {p : Addr} {js : List (List Str)} (h : JoL H p js) : JoL H' p js := let ⟨xs, q, r⟩ := h; ⟨xs, s _ _ q, r.mono fun _ _ z => z.same s⟩
theorem PT.same (s : Same H H') {v : V} {p : Prt} (h : PT K H v p) : PT K H' v p := by
  obtain ⟨a, po, inn, pl, la, jo, e, h0, h1, h2, h3, h4, h5⟩ := h
  exact ⟨a, po, inn, pl, la, jo, e, Same.seqT s h0, h1.same s, h2.same s, h3.same s, h4.same s, h5.same s⟩
theorem BK.same (s : Same H H') {b : Addr} {bk : List Prt} (h : BK K H b bk) : BK K H' b bk := let ⟨xs, q, r⟩ := h; ⟨xs, s _ _ q, r.mono fun _ _ z => z.same s⟩
theorem NmV.same (s : Same H H') {v : V} {p : Nat × Str} (h : NmV K H v p) : NmV K H' v p := let ⟨a, e, q⟩ := h; ⟨a, e, Same.seqT s q⟩
end
/-- the places of a law -/
def Lw.places (l : Lw) : List (Nat × Str) := if l.ex then l.ts.map fun t => (t.k, t.q) else (l.k, l.q) :: l.ts.map fun t => (t.k, t.q)
/-- the names of sizes of a law -/
def hS : Hd → Str
  | .inl _ => ""
  | .inr s => s
def Lw.sizes (l : Lw) : List Str := if l.ex then [] else l.ts.map fun t => hS t.h
/-- the texts of a part's ports -/
def own (ps inn : List Str) : List Str := (ps.flatMap fun x => [x ++ (".u" : Str), x ++ (".i" : Str)]) ++ inn
theorem flat_strs : ∀ qs : List Str, (qs.map V.str).all flatV = true
  | [] => rfl
  | q :: r => by rw [List.map_cons, List.all_cons, flat_strs r]; rfl
theorem r1 {k : Nat} {A : Around} (r : Room k A) : A.units + 1 < cLine := by have := r.un; omega

end K08
-- D8
namespace K08
open PySem PySem.Spec PyProof.Rows L2
section
variable {P : Program} {w : World} {K : PySem.W.Frag} {mg : Str → Option Value} {base : Heap}
def cf (ns : List Int) (m : Nat) : Int := ns.getD m 0
theorem at_map' {ns : List Int} {i : Int} {m : Nat} (e : i = (m : Int)) (h : m < ns.length) : atI (ns.map V.int) i = some (V.int (cf ns m)) := by
  rw [e]
  refine atI_nat ?_
  rw [List.getElem?_map, at_getD (d := 0) h]; rfl
def sp_law_draws (K : PySem.W.Frag) : Sp := fun vs H Q _ => ∃ (a : Addr) (ns : List Int), vs = [.ref a] ∧ SqL K H a (ns.map V.int) ∧ ns.length ≤ 63 ∧ ∀ H' p ds, Same H H' → H p = none → IL H' p ds → ds.length ≤ 4000 → Q (.ref p) H'
theorem ok_law_draws (T : Txt K mg) : FnOk P w K mg base CX0 1 T.law_draws.a T.law_draws.fd ["script"] (sp_law_draws K) := by
  refine T.law_draws.F.ok sc_law_draws (fun vs H Q E h => ?_) (fun cdv A outer s H vs Q E hr h => ?_)
  · obtain ⟨a, ns, rfl, _⟩ := h
    rfl
  · obtain ⟨a, ns, rfl, ha, hl, q⟩ := h
    refine ⟨_, (pss_cons (ps_set (i := 1) sc_law_draws.nd rfl (.inl rfl) (pe_lst pa_nil))
      (pss_cons (ps_for PassesOwn.never rfl (pi_range1 (by rfl) T.m_range (pa_cons (pe_callB (call_min2 rfl) (by rfl) T.m_min (by decide +kernel) (pa_cons pe_int (pa_cons (pe_callB call_len_seq (by rfl) T.m_len (by decide +kernel) (pa_cons (pv 0) pa_nil)) pa_nil))) pa_nil)) (pg_name (i := 2) sc_law_draws.nd rfl (.inl rfl))
        (pss_cons (ps_set (i := 3) sc_law_draws.nd rfl (.inl rfl) (pe_callB call_abs (by rfl) T.m_abs (by decide +kernel) (pa_cons (pe_ix ix_list (pv 0) (pv 2) (fun _ _ => rfl)) pa_nil)))
        (pss_one (ps_if (pt_cmpR op_ge (pv 3) (pe_op op_pow pe_int pe_int) (nomark _))
          (pss_one (ps_for PassesOwn.never rfl (pi_range1 (by rfl) T.m_range (pa_cons pe_int pa_nil)) (pg_name (i := 4) sc_law_draws.nd rfl (.inl rfl))
            (pss_one (ps_if (pt_cmpR op_gt (pv 3) pe_int (nomark _))
              (pss_cons (ps_expr (pe_bm PySem.F.plainAttrs_list PySem.F.slot_list_append PySem.F.type_list_append mt_append (pv 1) (pa_cons (pe_op op_mod (pe_callTy call_int1 (by rfl) T.m_int (by decide +kernel) (pa_cons (pv 3) pa_nil)) pe_int) pa_nil)))
              (pss_one (ps_set (i := 3) sc_law_draws.nd rfl (.inl rfl) (pe_op op_fdiv (pv 3) pe_int))))
              pss_nil))))
          (pss_cons (ps_set (i := 5) sc_law_draws.nd rfl (.inl rfl) (pe_op op_mod (pe_callTy call_int1 (by rfl) T.m_int (by decide +kernel) (pa_cons (pe_op op_add (pe_op op_mul (pv 3) pe_int) (pe_op op_mul (pe_op op_add (pv 2) pe_int) pe_int)) pa_nil)) pe_int))
          (pss_cons (ps_set (i := 5) sc_law_draws.nd rfl (.inl rfl) (pe_op op_mod (pe_callTy call_int1 (by rfl) T.m_int (by decide +kernel) (pa_cons (pe_op op_add (pe_op op_add (pe_op op_mul (pv 5) pe_int) (pe_op op_mul pe_int (pv 2))) pe_int) pa_nil)) pe_int))
          (pss_cons (ps_expr (pe_bm PySem.F.plainAttrs_list PySem.F.slot_list_append PySem.F.type_list_append mt_append (pv 1) (pa_cons (pe_op op_mod (pe_callTy call_int1 (by rfl) T.m_int (by decide +kernel) (pa_cons (pv 5) pa_nil)) pe_int) pa_nil)))
          (pss_one (ps_expr (pe_bm PySem.F.plainAttrs_list PySem.F.slot_list_append PySem.F.type_list_append mt_append (pv 1) (pa_cons (pe_op op_mod (pe_callTy call_int1 (by rfl) T.m_int (by decide +kernel) (pa_cons (pe_op op_fdiv (pv 5) pe_int) pa_nil)) pe_int) pa_nil)))))))))))
      (pss_one (ps_ret (pv 1))))), ?_⟩
    refine ⟨Nat.zero_le _, fun p hp => ?_⟩
    have s0 := same_upd (o := .lst []) hp
    obtain ⟨L, hL, eL⟩ : ∃ L : Nat, L ≤ ns.length ∧ L ≤ 63 ∧ (if ((ns.map V.int).length : Int) < 63 then ((ns.map V.int).length : Int) else 63) = (L : Int) := by
      refine ⟨min ns.length 63, Nat.min_le_left _ _, Nat.min_le_right _ _, ?_⟩
      rw [List.length_map]
      split <;> omega
    refine ⟨.ref a, rfl, a, _, rfl, .inl (s0.seq ha), 63, _, rfl, (L : Int), congrArg (fun z => [V.int z]) eL.2, by omega, by omega, ?_⟩
    refine for_range (n := (L : Int).toNat) (lo := 0) (fun i σ H' => Same H H' ∧ ∃ ds v2 v3 v4 v5, σ = [some (.ref a), some (.ref p), v2, v3, v4, v5] ∧ IL H' p ds ∧ ds.length ≤ 60 * i) ⟨s0, [], none, none, none, none, rfl, upd_same, Nat.zero_le _⟩ (fun i σ H' hi hP => ?_) (fun σ H' hP => ?_)
    · obtain ⟨sm, ds, v2, v3, v4, v5, rfl, hd, hn⟩ := hP
      have hi' : i < ns.length := by omega
      refine ⟨.ref a, rfl, _, rfl, a, _, _, _, rfl, rfl, sm.seq ha, at_map' (m := i) (by omega) hi', _, rfl, ?_⟩
      obtain ⟨r, hr1, er⟩ : ∃ r : Int, 0 ≤ r ∧ (if cf ns i < 0 then -cf ns i else cf ns i) = r := ⟨_, by split <;> omega, rfl⟩
      rw [er]
      refine ⟨_, rfl, _, _, rfl, rfl, ⟨by decide, by decide, by decide⟩, _, _, rfl, rfl, _, rfl, ?_⟩
      refine ite2 (fun _ => ?_) (fun hlt => ?_)
      · refine ⟨60, rfl, by decide, by decide, ?_⟩
        refine for_range (n := 60) (lo := 0) (fun j σ H' => Same H H' ∧ ∃ ds v2 v4 v5 r, σ = [some (.ref a), some (.ref p), v2, some (.int r), v4, v5] ∧ 0 ≤ r ∧ IL H' p ds ∧ ds.length ≤ 60 * i + j) ⟨sm, ds, _, _, _, r, rfl, hr1, hd, hn⟩ (fun j σ H' hj hP => ?_) (fun σ H' hP => ?_)
        · obtain ⟨sm, ds, v2, v4, v5, r, rfl, hr1, hd, hn⟩ := hP
          refine ⟨_, rfl, _, _, rfl, rfl, _, rfl, ?_⟩
          refine ite2 (fun _ => ?_) (fun _ => ⟨sm, ds, _, _, _, r, rfl, hr1, hd, by omega⟩)
          refine ⟨.ref p, rfl, .inl ⟨rfl, _, hd.sq⟩, _, rfl, .inl ⟨_, rfl, _, _, rfl, rfl, (by show (0 : Int) < _; decide), p, _, _, rfl, rfl, hd, by rw [List.length_map]; exact small' (by omega), ?_⟩⟩
          rw [app_ints]
          refine ⟨_, rfl, _, _, rfl, rfl, ⟨by decide, by decide⟩, ?_⟩
          exact ⟨same_over sm hp, _, _, _, _, _, rfl, by omega, il_upd, by rw [List.length_append]; show _ + 1 ≤ _; omega⟩
        · obtain ⟨sm, ds, v2, v4, v5, r, rfl, hr1, hd, hn⟩ := hP
          exact ⟨sm, ds, _, _, _, _, rfl, hd, by omega⟩
      · have hr2 : r < 10 ^ 18 := by
          have e : ((10 : Int) ^ (18 : Int).toNat) = 10 ^ 18 := rfl
          rw [e] at hlt
          have := of_decide_eq_false (Bool.eq_false_iff.mpr hlt)
          omega
        refine ⟨_, rfl, _, _, rfl, rfl, .inl ⟨by omega, by omega⟩, _, rfl, _, _, rfl, rfl, _, _, rfl, rfl, .inr ⟨by decide, by decide⟩, _, _, rfl, rfl, .inl ⟨_, rfl, _, _, rfl, rfl, (by show (0 : Int) < _; decide), ?_⟩⟩
        refine ⟨_, rfl, _, _, rfl, rfl, .inr ⟨by decide, by decide⟩, _, rfl, _, _, rfl, rfl, .inl ⟨by decide, by decide⟩, _, _, rfl, rfl, _, _, rfl, rfl, .inl ⟨_, rfl, _, _, rfl, rfl, (by show (0 : Int) < _; decide), ?_⟩⟩
        refine ⟨.ref p, rfl, .inl ⟨rfl, _, hd.sq⟩, _, rfl, .inl ⟨_, rfl, _, _, rfl, rfl, (by show (0 : Int) < _; decide), p, _, _, rfl, rfl, hd, by rw [List.length_map]; exact small' (by omega), ?_⟩⟩
        rw [app_ints]
        refine ⟨.ref p, rfl, .inl ⟨rfl, _, il_upd.sq⟩, _, rfl, _, _, rfl, rfl, ⟨by decide, by decide⟩, .inl ⟨_, rfl, _, _, rfl, rfl, (by show (0 : Int) < _; decide), p, _, _, rfl, rfl, il_upd, by rw [List.length_map, List.length_append]; exact small' (by show _ + 1 < _; omega), ?_⟩⟩
        rw [app_ints]
        exact ⟨same_over (same_over sm hp) hp, _, _, _, _, _, rfl, il_upd, by rw [List.length_append, List.length_append]; show _ + 1 + 1 ≤ _; omega⟩
    · obtain ⟨sm, ds, v2, v3, v4, v5, rfl, hd, hn⟩ := hP
      exact ⟨_, rfl, q H' p ds sm hp hd (by omega)⟩
/-- what a place of the draws gives -/
def la (ds : List Int) (k many : Int) : Int := if k < ds.length then cf ds k.toNat % many else 0
theorem la0 {ds : List Int} {k many : Int} (h : 0 < many) : 0 ≤ la ds k many := by
  unfold la; split
  · exact Int.emod_nonneg _ (by omega)
  · exact Int.le_refl _
theorem la1 {ds : List Int} {k many : Int} (h : 0 < many) : la ds k many < many := by
  unfold la; split
  · exact Int.emod_lt_of_pos _ h
  · exact h
def sp_law_at : Sp := fun vs H Q _ => ∃ (a : Addr) (ds : List Int) (k many : Int), vs = [.ref a, .int k, .int many] ∧ IL H a ds ∧ 0 ≤ k ∧ 0 < many ∧ Q (.int (la ds k many)) H
theorem ok_law_at (T : Txt K mg) : FnOk P w K mg base CX0 1 T.law_at.a T.law_at.fd ["draws", "k", "many"] sp_law_at := by
  refine T.law_at.F.ok sc_law_at (fun vs H Q E h => ?_) (fun cdv A outer s H vs Q E hr h => ?_)
  · obtain ⟨a, ds, k, m, rfl, _⟩ := h
    rfl
  · obtain ⟨a, ds, k, m, rfl, ha, hk, hm, q⟩ := h
    refine ⟨_, (pss_cons (ps_if (pt_cmpR op_lt (pv 1) (pe_callB call_len_seq (by rfl) T.m_len (by decide +kernel) (pa_cons (pv 0) pa_nil)) (nomark _))
        (pss_one (ps_ret (pe_op op_mod (pe_callTy call_int1 (by rfl) T.m_int (by decide +kernel) (pa_cons (pe_ix ix_list (pv 0) (pv 1) (fun _ _ => rfl)) pa_nil)) (pv 2))))
        pss_nil)
      (pss_one (ps_ret pe_int))), ?_⟩
    refine ⟨_, rfl, .ref a, rfl, a, _, rfl, .inl ha.sq, _, _, rfl, rfl, _, rfl, ?_⟩
    rw [List.length_map]
    unfold la at q
    refine ite2 (fun h => ?_) (fun h => ?_)
    · have hlt := of_decide_eq_true h
      rw [if_pos hlt] at q
      refine ⟨.ref a, rfl, _, rfl, a, _, _, _, rfl, rfl, ha.sq, at_map' (m := k.toNat) (by omega) (by omega), .inl ⟨_, rfl, _, rfl, _, _, rfl, rfl, hm, q⟩⟩
    · rw [if_neg (fun z => by exact h (decide_eq_true z))] at q
      exact q
theorem at_ex {α : Type} {xs : List α} {i : Int} (h0 : 0 ≤ i) (h1 : i < xs.length) : ∃ c, atI xs i = some c ∧ c ∈ xs := by
  obtain ⟨n, rfl⟩ : ∃ n : Nat, i = (n : Int) := ⟨i.toNat, by omega⟩
  have h : n < xs.length := by omega
  exact ⟨xs[n], atI_nat (by simp [h]), List.getElem_mem h⟩
/-! ### the pool of names -/
theorem let26 : ∀ j : Fin 26, atI ("abcdefghijklmnopqrstuvwxyz" : Str).cps.toList ((j.val : Nat) : Int) = some (97 + j.val) := by decide +kernel
/-- the tail of a name -/
def tl (long i : Nat) : Str := Txt.mul ("4567890abcd" : Str) ((long : Nat) * (if i % 5 = 2 ∧ i < 26 then 1 else 0 : Int)) ++ Txt.mul ("x" : Str) ((i : Int) / 26)
theorem tl_pos {long i : Nat} (h : i % 5 = 2) (h2 : i < 26) : tl long i = Txt.mul ("4567890abcd" : Str) ((long : Int) * 1) ++ Txt.mul ("x" : Str) ((i : Int) / 26) := by
  unfold tl
  simp only [h, h2, and_self, if_true]
theorem tl_neg {long i : Nat} (h : ¬ (i % 5 = 2 ∧ i < 26)) : tl long i = Txt.mul ("4567890abcd" : Str) ((long : Int) * 0) ++ Txt.mul ("x" : Str) ((i : Int) / 26) := by
  unfold tl
  simp only [h, if_false]
theorem same_none {H H' : Hp} {p : Addr} (s : Same H H') (h : H' p = none) : H p = none := by
  cases e : H p with
  | none => rfl
  | some o => rw [s _ _ e] at h; cases h
/-- at most n signs, all of them plain -/
def GS (n : Nat) (s : Str) : Prop := s.length ≤ n ∧ ∀ c ∈ s.cps.toList, c < 200
instance {n : Nat} {s : Str} : Decidable (GS n s) := inferInstanceAs (Decidable (_ ∧ _))
theorem GS.mono {n m : Nat} {s : Str} (h : GS n s) (l : n ≤ m) : GS m s := ⟨Nat.le_trans h.1 l, h.2⟩
theorem GS.add {n m : Nat} {s t : Str} (a : GS n s) (b : GS m t) : GS (n + m) (s ++ t) := by
  refine ⟨by rw [Str.length_append]; exact Nat.add_le_add a.1 b.1, fun c hc => ?_⟩
  rw [Str.cps_append, Array.toList_append] at hc
  exact (List.mem_append.mp hc).elim (a.2 c) (b.2 c)
theorem GS.one {c : Nat} (h : c < 200) : GS 1 ⟨#[c]⟩ := ⟨Nat.le_refl _, fun x hx => by simp at hx; omega⟩
theorem tl_all : ∀ (l : Fin 2) (i : Fin 52), GS 11 (tl l.val i.val) := by decide +kernel
theorem tl_gs (l i : Nat) (hl : l < 2) (hi : i < 52) : GS 11 (tl l i) := tl_all ⟨l, hl⟩ ⟨i, hi⟩
theorem tl_ne : ∀ (l : Fin 2) (i : Fin 52) (j : Fin 52), i.val % 26 = j.val % 26 → tl l.val i.val = tl l.val j.val → i = j := by decide +kernel
def pn (start long i : Nat) : Str := (⟨#[97 + (start + 7 * i) % 26]⟩ : Str) ++ tl long i
theorem pn_gs {s l i : Nat} (hl : l < 2) (hi : i < 52) : GS 12 (pn s l i) := (GS.one (by omega)).add (tl_gs l i hl hi)
theorem pn_inj {s l i j : Nat} (hl : l < 2) (hi : i < 52) (hj : j < 52) (e : pn s l i = pn s l j) : i = j := by
  have ec : (pn s l i).cps.toList = (pn s l j).cps.toList := by rw [e]
  unfold pn at ec
  rw [Str.cps_append, Str.cps_append, Array.toList_append, Array.toList_append] at ec
  injection ec with e1 e2
  have et : tl l i = tl l j := by
    have e3 : (tl l i).cps = (tl l j).cps := Array.toList_inj.mp e2
    cases hA : tl l i; cases hB : tl l j
    rw [hA, hB] at e3
    exact congrArg _ e3
  have h := tl_ne ⟨l, hl⟩ ⟨i, hi⟩ ⟨j, hj⟩ (by show i % 26 = j % 26; omega) et
  exact congrArg Fin.val h
def pool (start long : Nat) : List Str := (List.range 52).map (pn start long)
theorem pool_len {s l : Nat} : (pool s l).length = 52 := by rw [pool, List.length_map, List.length_range]
theorem pool_get {s l i : Nat} (h : i < 52) : (pool s l)[i]? = some (pn s l i) := by
  rw [pool, List.getElem?_map, List.getElem?_range h]; rfl
theorem pool_at {s l i : Nat} {z : Int} (e : z = (i : Int)) (h : i < 52) : atI ((pool s l).map V.str) z = some (V.str (pn s l i)) := by
  rw [e]
  refine atI_nat ?_
  rw [List.getElem?_map, pool_get h]; rfl
def sp_law_pool : Sp := fun vs H Q _ => ∃ (a : Addr) (ds : List Int) (k : Int), vs = [.ref a, .int k] ∧ IL H a ds ∧ 0 ≤ k ∧
  ∀ (H' : Hp) (p : Addr) (start long : Nat), start < 26 → long < 2 → Same H H' → H p = none → H' p = some (.lst ((pool start long).map V.str)) → Q (.ref p) H'
theorem ok_law_pool (T : Txt K mg) : FnOk P w K mg base CX0 2 T.law_pool.a T.law_pool.fd ["draws", "k"] sp_law_pool := by
  refine T.law_pool.F.ok sc_law_pool (fun vs H Q E h => ?_) (fun cdv A outer s H vs Q E hr h => ?_)
  · obtain ⟨a, ds, k, rfl, _⟩ := h
    rfl
  · obtain ⟨a, ds, k, rfl, ha, hk, q⟩ := h
    refine ⟨_, (pss_cons (ps_set (i := 2) sc_law_pool.nd rfl (.inr rfl) pe_str)
      (pss_cons (ps_set (i := 3) sc_law_pool.nd rfl (.inr rfl) (pe_call (ok_law_at T) (hr.mono (by decide)) (by rfl) T.law_at.g T.law_at.F.kp T.law_at.b .nil pass0 (pa_cons (pv 0) (pa_cons (pv 1) (pa_cons pe_int pa_nil)))))
      (pss_cons (ps_set (i := 4) sc_law_pool.nd rfl (.inr rfl) (pe_op op_fdiv (pe_call (ok_law_at T) (hr.mono (by decide)) (by rfl) T.law_at.g T.law_at.F.kp T.law_at.b .nil pass0 (pa_cons (pv 0) (pa_cons (pv 1) (pa_cons pe_int pa_nil)))) pe_int))
      (pss_cons (ps_set (i := 5) sc_law_pool.nd rfl (.inr rfl) (pe_lc (own := [("i", 6)]) rfl sc_law_pool.nd (pi_range1 (by rfl) T.m_range (pa_cons pe_int pa_nil)) (blkOk_by (N := ["draws", "k", "letters", "start", "long", "ends", "i"]) (sc := defScope s_law_pool) (by decide +kernel)) (fun _ _ _ _ _ => (pg_name (i := 6) sc_law_pool.nd rfl (.inl rfl))) (fun _ _ _ _ _ => pts_nil) (fun _ _ _ _ _ => (pe_op op_add_str (pe_op op_mulS pe_str (pe_op op_mul (pv 4) (pe_callTy call_int1 (by rfl) T.m_int (by decide +kernel) (pa_cons (pe_and (pe_cmpR op_eq (pe_op op_mod (pe_callTy call_int1 (by rfl) T.m_int (by decide +kernel) (pa_cons (pv 6) pa_nil)) pe_int) pe_int (nomark _)) (pe_one (pe_cmpR op_lt (pv 6) pe_int (nomark _)))) pa_nil)))) (pe_op op_mulS pe_str (pe_op op_fdiv (pv 6) pe_int))))))
      (pss_one (ps_ret (pe_lc (own := [("i", 6)]) rfl sc_law_pool.nd (pi_range1 (by rfl) T.m_range (pa_cons pe_int pa_nil)) (blkOk_by (N := ["draws", "k", "letters", "start", "long", "ends", "i"]) (sc := defScope s_law_pool) (by decide +kernel)) (fun _ _ _ _ _ => (pg_name (i := 6) sc_law_pool.nd rfl (.inl rfl))) (fun _ _ _ _ _ => pts_nil) (fun _ _ _ _ _ => (pe_op op_add_str (pe_ix ix_str (pv 2) (pe_op op_mod (pe_callTy call_int1 (by rfl) T.m_int (by decide +kernel) (pa_cons (pe_op op_add (pv 3) (pe_op op_mul pe_int (pv 6))) pa_nil)) pe_int) (fun _ _ => rfl)) (pe_ix (r := rIxL K) ix_list (pv 5) (pv 6) (fun _ _ => rfl))))))))))), ?_⟩
    have s0 := la0 (ds := ds) (k := k) (many := 26) (by decide)
    have s1 := la1 (ds := ds) (k := k) (many := 26) (by decide)
    have l0 := la0 (ds := ds) (k := k) (many := 52) (by decide)
    have l1 := la1 (ds := ds) (k := k) (many := 52) (by decide)
    refine ⟨.ref a, rfl, _, rfl, a, ds, k, 26, rfl, ha, hk, by decide, ?_⟩
    refine ⟨.ref a, rfl, _, rfl, a, ds, k, 52, rfl, ha, hk, by decide, _, _, rfl, rfl, ⟨by decide, by decide⟩, ?_⟩
    generalize la ds k 26 = start at s0 s1
    generalize la ds k 52 = lng at l0 l1
    obtain ⟨start, rfl⟩ : ∃ n : Nat, start = (n : Int) := ⟨start.toNat, by omega⟩
    obtain ⟨long, el⟩ : ∃ n : Nat, lng / 26 = (n : Int) := ⟨(lng / 26).toNat, by omega⟩
    dsimp only
    rw [el]
    refine ⟨52, rfl, by decide, by decide, fun D nD => ?_⟩
    refine lc_relR (n := 52) (fun j y => y = .str (tl long j)) nD (by decide) (fun j H' Q' hj sm hq => ?_) (fun H' ys sm hy hn hr => ?_)
    · have len : ∀ z : Int, 0 ≤ z → z ≤ 2 → (Txt.mul ("4567890abcd" : Str) z).length + (Txt.mul ("x" : Str) ((j : Int) / 26)).length ≤ sizeLine := fun z z0 z1 => by
        have e1 := len_mul ("4567890abcd" : Str) z
        have e2 := len_mul ("x" : Str) ((j : Int) / 26)
        rw [if_neg (fun h => by have := of_decide_eq_true h; omega)] at e1 e2
        rw [show ("4567890abcd" : Str).length = 11 from by decide +kernel] at e1
        rw [show ("x" : Str).length = 1 from by decide +kernel] at e2
        exact small (by omega)
      have b0 : (0 : Int) ≤ (j : Int) / 26 := by omega
      have b1 : (j : Int) / 26 ≤ 1 := by omega
      refine ⟨_, rfl, _, rfl, .inl ⟨_, rfl, _, _, rfl, rfl, (by show (0 : Int) < _; decide), rfl, _, rfl, ?_⟩⟩
      refine ite2 (fun h1 => ?_) (fun h1 => ?_)
      · have e5 : (j : Int) % 5 = 2 := V.int.inj (of_decide_eq_true h1)
        by_cases h2 : j < 26
        · refine ⟨_, rfl, _, _, rfl, rfl, .inr ⟨_, rfl, ?_⟩⟩
          rw [decide_eq_true (by omega : (j : Int) < 26)]
          refine ⟨_, _, rfl, rfl, .inl ⟨by omega, by omega⟩, _, _, rfl, rfl, (by decide +kernel), by show -1000 ≤ (long : Int) * 1; omega, by show (long : Int) * 1 ≤ 1000; omega, ?_⟩
          refine ⟨_, rfl, _, _, rfl, rfl, ⟨by decide, by decide⟩, _, _, rfl, rfl, (by decide +kernel), by omega, by omega, ?_⟩
          refine ⟨_, _, rfl, rfl, len _ (by show 0 ≤ (long : Int) * 1; omega) (by show (long : Int) * 1 ≤ 2; omega), hq _ (congrArg V.str (tl_pos (by omega) h2).symm)⟩
        · refine ⟨_, rfl, _, _, rfl, rfl, .inr ⟨_, rfl, ?_⟩⟩
          rw [decide_eq_false (by omega : ¬ (j : Int) < 26)]
          refine ⟨_, _, rfl, rfl, .inl ⟨by omega, by omega⟩, _, _, rfl, rfl, (by decide +kernel), by show -1000 ≤ (long : Int) * 0; omega, by show (long : Int) * 0 ≤ 1000; omega, ?_⟩
          refine ⟨_, rfl, _, _, rfl, rfl, ⟨by decide, by decide⟩, _, _, rfl, rfl, (by decide +kernel), by omega, by omega, ?_⟩
          refine ⟨_, _, rfl, rfl, len _ (by show 0 ≤ (long : Int) * 0; omega) (by show (long : Int) * 0 ≤ 2; omega), hq _ (congrArg V.str (tl_neg fun z => h2 z.2).symm)⟩
      · have e5 : ¬ (j : Int) % 5 = 2 := fun z => h1 (decide_eq_true (congrArg V.int z))
        refine .inr ⟨_, rfl, ?_⟩
        refine ⟨_, _, rfl, rfl, .inl ⟨by omega, by omega⟩, _, _, rfl, rfl, (by decide +kernel), by show -1000 ≤ (long : Int) * 0; omega, by show (long : Int) * 0 ≤ 1000; omega, ?_⟩
        refine ⟨_, rfl, _, _, rfl, rfl, ⟨by decide, by decide⟩, _, _, rfl, rfl, (by decide +kernel), by omega, by omega, ?_⟩
        refine ⟨_, _, rfl, rfl, len _ (by show 0 ≤ (long : Int) * 0; omega) (by show (long : Int) * 0 ≤ 2; omega), hq _ (congrArg V.str (tl_neg fun z => e5 (by have := z.1; omega)).symm)⟩
    · have ey : ys = ((List.range 52).map fun i => V.str (tl long i)) := by
        refine List.ext_getElem? fun i => ?_
        rcases Nat.lt_or_ge i 52 with hi | hi
        · rw [List.getElem?_map, List.getElem?_range hi]
          obtain ⟨y, h⟩ : ∃ y, ys[i]? = some y := ⟨ys[i]'(by omega), by simp [show i < ys.length by omega]⟩
          rw [h, hr i y h]; rfl
        · rw [List.getElem?_eq_none (by omega), List.getElem?_eq_none (by simp; omega)]
      subst ey
      refine ⟨52, rfl, by decide, by decide, fun D2 nD2 => ?_⟩
      refine lc_relR (n := 52) (fun j y => y = .str (pn start long j)) nD2 (by decide) (fun j H2 Q' hj sm2 hq => ?_) (fun H2 ys sm2 hy2 hn2 hr2 => ?_)
      · refine ⟨_, rfl, _, rfl, _, rfl, _, _, rfl, rfl, .inl ⟨by omega, by omega⟩, _, _, rfl, rfl, .inl ⟨_, rfl, _, _, rfl, rfl, (by show (0 : Int) < _; decide), ?_⟩⟩
        have ec : ((start : Int) + 7 * (j : Int)) % 26 = (((start + 7 * j) % 26 : Nat) : Int) := by omega
        have at1 := let26 ⟨(start + 7 * j) % 26, Nat.mod_lt _ (by decide)⟩
        dsimp only at at1
        rw [← ec] at at1
        have at2 : atI ((List.range 52).map fun i => V.str (tl long i)) ((j : Nat) : Int) = some (.str (tl long j)) := atI_nat (by rw [List.getElem?_map, List.getElem?_range hj]; rfl)
        refine ⟨_, _, _, rfl, rfl, (by decide +kernel), at1, _, rfl, _, rfl, _, _, _, _, rfl, rfl, .of (sm2 _ _ hy), at2, _, _, rfl, rfl, ?_, hq _ rfl⟩
        exact small (by have := (tl_gs long j (by omega) (by omega)).1; show 1 + _ ≤ 60000; omega)
      · have ey : ys = (pool start long).map V.str := by
          refine List.ext_getElem? fun i => ?_
          rcases Nat.lt_or_ge i 52 with hi | hi
          · rw [List.getElem?_map, pool_get hi]
            obtain ⟨y, h⟩ : ∃ y, ys[i]? = some y := ⟨ys[i]'(by omega), by simp [show i < ys.length by omega]⟩
            rw [h, hr2 i y h]; rfl
          · rw [List.getElem?_eq_none (by omega), List.getElem?_eq_none (by rw [List.length_map, pool_len]; omega)]
        subst ey
        exact q H2 D2 start long (by omega) (by omega) (sm.trans sm2) (same_none sm nD2) hy2
end
end K08
-- O8
namespace K08
open PySem PySem.Spec PyProof.Rows L2
section
variable {P : Program} {w : World} {K : PySem.W.Frag} {mg : Str → Option Value} {base : Heap}
def sp_law_own (K : PySem.W.Frag) : Sp := fun vs H Q _ => ∃ (v : V) (p : Prt), vs = [v] ∧ PT K H v p ∧ p.po.length ≤ 100 ∧ p.inn.length ≤ 1000 ∧ (∀ x ∈ p.po, x.length ≤ 1000) ∧
  ∀ (H' : Hp) (q : Addr), Same H H' → H q = none → SL H' q (own p.po p.inn) → Q (.ref q) H'
theorem ok_law_own (T : Txt K mg) : FnOk P w K mg base CX0 1 T.law_own.a T.law_own.fd ["part"] (sp_law_own K) := by
  refine T.law_own.F.ok sc_law_own (fun vs H Q E h => ?_) (fun cdv A outer s H vs Q E hr h => ?_)
  · obtain ⟨v, p, rfl, _⟩ := h
    rfl
  · obtain ⟨v, p, rfl, ⟨a, po, inn, pl, la, jo, rfl, h0, h1, h2, _⟩, l1, l2, l3, q⟩ := h
    refine ⟨_, (pss_cons (ps_set (i := 1) sc_law_own.nd rfl (.inl rfl) (pe_lst pa_nil))
      (pss_cons (ps_for PassesOwn.never rfl (pi_list (pe_ix ix_tup (pv 0) pe_int (fun _ _ => rfl))) (pg_name (i := 2) sc_law_own.nd rfl (.inl rfl))
        (pss_one (ps_set (i := 1) sc_law_own.nd rfl (.inl rfl) (pe_op op_cat (pv 1) (pe_lst (pa_cons (pe_op op_add_str (pv 2) pe_str) (pa_cons (pe_op op_add_str (pv 2) pe_str) pa_nil)))))))
      (pss_one (ps_ret (pe_op op_cat (pv 1) (pe_ix ix_tup (pv 0) pe_int (fun _ _ => rfl))))))), ?_⟩
    refine ⟨by show 0 ≤ sizeLine; decide, fun f nf => ⟨.ref a, rfl, _, _, _, _, rfl, rfl, Same.seqT (same_upd nf) h0, rfl, po, rfl, ⟨_, .of ((same_upd nf) _ _ h1)⟩, ?_⟩⟩
    have len : ∀ i : Nat, ((p.po.take i).flatMap fun x => [x ++ (".u" : Str), x ++ (".i" : Str)]).length = 2 * (p.po.take i).length := fun i => by
      generalize p.po.take i = xs
      induction xs with
      | nil => rfl
      | cons x r ih => rw [List.flatMap_cons, List.length_append, ih]; show 2 + _ = 2 * (_ + 1); omega
    refine for_it (walk_list (K := K) (a := po) (xs := p.po.map V.str)) (fun i σ G => Same H G ∧ ∃ (v2 : Option V) (f : Addr), H f = none ∧ σ = [some (.ref a), some (.ref f), v2] ∧ SL G f ((p.po.take i).flatMap fun x => [x ++ (".u" : Str), x ++ (".i" : Str)])) ⟨same_upd nf, none, f, nf, rfl, upd_same⟩ (fun _ _ G _ pv => .of (pv.1 _ _ h1)) (fun i x σ G G' hi pv y => ?_) (fun σ G pv => ?_)
    · obtain ⟨sm, v2, f, nf, rfl, hf⟩ := pv
      obtain ⟨rfl, hx⟩ := y
      have hi' : i < p.po.length := by rw [List.length_map] at hi; exact hi
      have ex : p.po[i]? = some p.po[i] := by simp [hi']
      rw [List.getElem?_map, ex] at hx
      have hx : V.str p.po[i] = x := Option.some.inj hx
      subst hx
      have lx := l3 _ (mem_at ex)
      generalize p.po[i] = x at lx ex
      refine ⟨.ref f, rfl, _, rfl, _, _, rfl, rfl, small (by show _ + 2 ≤ 60000; omega), _, rfl, _, _, rfl, rfl, small (by show _ + 2 ≤ 60000; omega), by show 2 ≤ sizeLine; decide, fun t nt => ?_⟩
      have ll : (((p.po.take i).flatMap fun x => [x ++ (".u" : Str), x ++ (".i" : Str)]).map V.str).length + 2 ≤ sizeLine := by
        have := len i
        rw [List.length_map, this, List.length_take]
        exact small (by omega)
      refine ⟨f, t, _, _, rfl, rfl, (same_upd nt) _ _ hf, upd_same, ll, fun z nz => ?_⟩
      refine ⟨same_over (sm.trans (same_upd nt)) (same_none (sm.trans (same_upd nt)) nz), _, z, same_none (sm.trans (same_upd nt)) nz, rfl, ?_⟩
      show upd _ z _ z = _
      rw [upd_same, take_snoc ex, List.flatMap_append, List.map_append]; rfl
    · obtain ⟨sm, v2, f, nf, rfl, hf⟩ := pv
      rw [List.length_map, List.take_length] at hf
      refine ⟨.ref f, rfl, .ref a, rfl, _, _, _, _, rfl, rfl, Same.seqT sm h0, rfl, f, inn, _, _, rfl, rfl, hf, sm _ _ h2, ?_, fun z nz => q _ z (same_over sm (same_none sm nz)) (same_none sm nz) ?_⟩
      · have := len p.po.length
        rw [List.take_length] at this
        rw [List.length_map, List.length_map, this]
        exact small (by omega)
      · show upd G z _ z = _
        rw [upd_same, ← List.map_append]; rfl
end
end K08
-- Q8
namespace K08
open PySem PySem.Spec PyProof.Rows L2
section
variable {P : Program} {w : World} {K : PySem.W.Frag} {mg : Str → Option Value} {base : Heap}
/-! ### laws of a part -/
/-- stands whatever becomes of D -/
def Stb {β : Type} (D : Addr) (R : Hp → V → β → Prop) (H : Hp) (v : V) (b : β) : Prop := ∀ H', SameX D H H' → R H' v b
theorem Stb.mono {β : Type} {D : Addr} {R : Hp → V → β → Prop} {H H' : Hp} {v : V} {b : β} (s : SameX D H H') (h : Stb D R H v b) : Stb D R H' v b := fun G sg => h G (s.trans sg)
theorem Stb.at {β : Type} {D : Addr} {R : Hp → V → β → Prop} {H : Hp} {v : V} {b : β} (h : Stb D R H v b) : R H v b := h H fun _ _ _ z => z
theorem Stb.all {β : Type} {D : Addr} {R : Hp → V → β → Prop} {H H' : Hp} {xs : List V} {bs : List β} (s : SameX D H H') (h : A2 (Stb D R H) xs bs) : A2 (Stb D R H') xs bs := h.mono fun _ _ z => z.mono s
/-- is new and stands whatever becomes of D and of what was there in B -/
def NwS {β : Type} (B : Hp) (D : Addr) (R : Hp → V → β → Prop) (H : Hp) (v : V) (b : β) : Prop := ∀ H', (∀ c o, B c = none → c ≠ D → H c = some o → H' c = some o) → R H' v b
theorem NwS.mono {β : Type} {B : Hp} {D : Addr} {R : Hp → V → β → Prop} {H H' : Hp} {v : V} {b : β} (s : SameX D H H') (h : NwS B D R H v b) : NwS B D R H' v b := fun G sg => h G fun c o n a z => sg c o n a (s c o a z)
theorem NwS.at {β : Type} {B : Hp} {D : Addr} {R : Hp → V → β → Prop} {H : Hp} {v : V} {b : β} (h : NwS B D R H v b) : R H v b := h H fun _ _ _ _ z => z
theorem NwS.all {β : Type} {B : Hp} {D : Addr} {R : Hp → V → β → Prop} {H H' : Hp} {xs : List V} {bs : List β} (s : SameX D H H') (h : A2 (NwS B D R H) xs bs) : A2 (NwS B D R H') xs bs := h.mono fun _ _ z => z.mono s
def NwS2 {β : Type} (B : Hp) (D E : Addr) (R : Hp → V → β → Prop) (H : Hp) (v : V) (b : β) : Prop := ∀ H', (∀ c o, B c = none → c ≠ D → c ≠ E → H c = some o → H' c = some o) → R H' v b
theorem NwS2.all {β : Type} {B : Hp} {D E : Addr} {R : Hp → V → β → Prop} {H H' : Hp} {xs : List V} {bs : List β} (s : ∀ c o, c ≠ D → c ≠ E → H c = some o → H' c = some o) (h : A2 (NwS2 B D E R H) xs bs) : A2 (NwS2 B D E R H') xs bs :=
  h.mono fun _ _ z G sg => z G fun c o n a b y => sg c o n a b (s c o a b y)
/-- is new -/
def Nw {β : Type} (B : Hp) (R : Hp → V → β → Prop) (H : Hp) (v : V) (b : β) : Prop := ∀ H', (∀ c o, B c = none → H c = some o → H' c = some o) → R H' v b
theorem Nw.at {β : Type} {B : Hp} {R : Hp → V → β → Prop} {H : Hp} {v : V} {b : β} (h : Nw B R H v b) : R H v b := h H fun _ _ _ z => z
theorem Nw.same {β : Type} {B : Hp} {R : Hp → V → β → Prop} {H H' : Hp} {v : V} {b : β} (s : Same H H') (h : Nw B R H v b) : Nw B R H' v b := fun G sg => h G fun c o n z => sg c o n (s _ _ z)
theorem Nw.old {β : Type} {B B' : Hp} {R : Hp → V → β → Prop} {H : Hp} {v : V} {b : β} (s : Same B' B) (h : Nw B R H v b) : Nw B' R H v b := fun G sg => h G fun c o n z => sg c o (same_none s n) z
theorem A2.take {α β : Type} {R : α → β → Prop} : ∀ {as : List α} {bs : List β} (i : Nat), A2 R as bs → A2 R (as.take i) (bs.take i)
  | _, _, 0, _ => .nil
  | _, _, _ + 1, .nil => .nil
  | _, _, i + 1, .cons h t => .cons h (A2.take i t)
theorem cut_to {xs : List V} {z : Int} {L : Nat} (e : z = (L : Int)) : cutV xs none (some z) = xs.take L := by
  subst e
  unfold cutV
  rw [HT.sIx_none, HT.sIx_nat, List.drop_zero, Nat.sub_zero]
  rcases Nat.le_total L xs.length with h | h
  · rw [Nat.min_eq_left h]
  · rw [Nat.min_eq_right h, List.take_of_length_le (Nat.le_refl _), List.take_of_length_le h]
/-- what is known of a heap in which D was not yet stands whatever becomes of D -/
theorem sx_of {D : Addr} {H G H' : Hp} (s : Same H G) (n : H D = none) (x : SameX D G H') : Same H H' := fun c o h => x c o (fun z => by rw [z, n] at h; cases h) (s c o h)
theorem shaped_of {d : PyData} (h1 : d.canLay0 = true) (h2 : d.depth ≤ 64) : SeqAt.shaped d = true := by
  unfold SeqAt.shaped
  rw [h1, decide_eq_true h2]; rfl
theorem str_ok {n : Nat} {s : Str} (h : GS n s) : (PyData.str s).canLay0 = true := by
  show s.cps.all (· < 0x110000) = true
  rw [← Array.all_toList, List.all_eq_true]
  exact fun c hc => decide_eq_true (Nat.lt_trans (h.2 c hc) (by decide))
def dP (p : Nat × Str) : PyData := .tuple [.int (p.1 : Nat), .str p.2]
theorem dp_all {H : Hp} : ∀ {xs : List V} {ps : List (Nat × Str)}, A2 (NmV K H) xs ps → DpAll K H xs (ps.map dP)
  | _, _, .nil => .nil
  | _, _, .cons a t => by
    obtain ⟨b, rfl, q⟩ := a
    exact .cons (.tup q (.cons (.int _) (.cons (.str _) .nil))) (dp_all t)
theorem lay_dP {p : Nat × Str} {n : Nat} (h : GS n p.2) : (dP p).canLay0 = true := by
  have := str_ok h
  show (true && ((PyData.str p.2).canLay0 && true)) = true
  rw [this]; rfl
theorem shaped_dP {p : Nat × Str} {n : Nat} (h : GS n p.2) : SeqAt.shaped (dP p) = true := shaped_of (lay_dP h) (by simp [dP, PyData.depth, PyData.depthAll])
theorem shaped_dPs {ps : List (Nat × Str)} {n : Nat} (h : ∀ p ∈ ps, GS n p.2) : SeqAt.shaped (.list (ps.map dP)) = true := by
  refine shaped_of ?_ ?_
  · show PyData.canLayAll0 (ps.map dP) = true
    induction ps with
    | nil => rfl
    | cons p r ih =>
      show ((dP p).canLay0 && PyData.canLayAll0 (r.map dP)) = true
      rw [lay_dP (h p List.mem_cons_self), ih fun q hq => h q (List.mem_cons_of_mem _ hq)]; rfl
  · show PyData.depthAll (ps.map dP) + 1 ≤ 64
    have : PyData.depthAll (ps.map dP) ≤ 1 := by
      clear h
      induction ps with
      | nil => exact Nat.zero_le _
      | cons p r ih =>
        show max (dP p).depth (PyData.depthAll (r.map dP)) ≤ 1
        exact Nat.max_le.mpr ⟨by simp [dP, PyData.depth, PyData.depthAll], ih⟩
    omega
theorem eqv_dP (x y : Nat × Str) : PyData.eqv (dP x) (dP y) = decide (x = y) := by
  obtain ⟨a, b⟩ := x
  obtain ⟨c, d⟩ := y
  have e1 : ((a : Int) == (c : Int)) = decide (a = c) := by
    by_cases h : a = c
    · simp [h]
    · have : ¬ ((a : Int) = c) := by omega
      simp [h, this]
  have e2 : (b == d) = decide (b = d) := by
    by_cases h : b = d
    · simp [h]
    · simp [h]
  simp only [dP, PyData.eqv, PyData.eqvAll, e1, e2, Prod.mk.injEq, Bool.and_true, Bool.decide_and]
theorem in_dPs (ps : List (Nat × Str)) (x : Nat × Str) : ((ps.map dP).any fun z => PyData.eqv z (dP x)) = decide (x ∈ ps) := by
  induction ps with
  | nil => rfl
  | cons p r ih =>
    rw [List.map_cons, List.any_cons, ih, eqv_dP]
    by_cases e : p = x
    · simp [e]
    · have : ¬ x = p := fun z => e z.symm
      simp [e, this]
/-- a law over names -/
structure VL (own : List Str) (l : Lw) : Prop where
  src : l.src = "" ∨ l.src = "f" ∨ l.src = "g1"
  nd : l.places.Nodup
  pl : ∀ p ∈ l.places, p.1 < 4 ∧ p.2 ∈ own
  num : l.ex = true → ∀ t ∈ l.ts, ∃ n : Int, t.h = .inl n ∧ n ≠ 0 ∧ n.natAbs ≤ 1000000
  nam : l.ex = false → l.ts ≠ [] ∧ ∀ t ∈ l.ts, ∃ s : Str, t.h = .inr s ∧ GS 12 s
  many : l.ts.length ≤ 4
/-- the laws of a part: the names of sizes are those of the pool, one after the other -/
structure VLs (own : List Str) (s l : Nat) (ls : List Lw) : Prop where
  ok : ∀ x ∈ ls, VL own x
  many : ls.length ≤ 3
  sz : ∃ u, u ≤ 3 * ls.length ∧ ls.flatMap Lw.sizes = (List.range u).map fun i => pn s l (39 - i)
def sp_part_laws (K : PySem.W.Frag) : Sp := fun vs H Q _ => ∃ (a : Addr) (ds : List Int) (k : Int) (v : V) (p : Prt) (pl : Addr) (s l : Nat) (many : Int), vs = [.ref a, .int k, v, .ref pl, .int many] ∧ IL H a ds ∧ 0 ≤ k ∧ PT K H v p ∧
  p.po.length ≤ 3 ∧ p.inn.length ≤ 3 ∧ (∀ x ∈ p.po, GS 12 x) ∧ (∀ x ∈ p.inn, GS 12 x) ∧ own p.po p.inn ≠ [] ∧ SL H pl (pool s l) ∧ l < 2 ∧ 0 ≤ many ∧ many ≤ 3 ∧
  ∀ (H' : Hp) (q : Addr) (ls : List Lw), Same H H' → H q = none → (∀ H'', (∀ c o, H c = none → H' c = some o → H'' c = some o) → LsL K H'' q ls) → VLs (own p.po p.inn) s l ls → Q (.ref q) H'
theorem own_gs {ps inn : List Str} (h1 : ∀ x ∈ ps, GS 12 x) (h2 : ∀ x ∈ inn, GS 12 x) : ∀ x ∈ own ps inn, GS 14 x := fun x hx => by
  rcases List.mem_append.mp hx with hx | hx
  · obtain ⟨y, hy, hx⟩ := List.mem_flatMap.mp hx
    have g := h1 y hy
    simp only [List.mem_cons, List.not_mem_nil, or_false] at hx
    rcases hx with rfl | rfl
    · exact g.add (m := 2) ⟨by decide +kernel, by decide +kernel⟩
    · exact g.add (m := 2) ⟨by decide +kernel, by decide +kernel⟩
  · exact (h2 x hx).mono (by decide)
theorem own_len {ps inn : List Str} : (own ps inn).length = 2 * ps.length + inn.length := by
  unfold own
  rw [List.length_append]
  congr 1
  induction ps with
  | nil => rfl
  | cons x r ih => rw [List.flatMap_cons, List.length_append, ih]; show 2 + _ = 2 * (_ + 1); omega
theorem two {A B : Prop} (h : A) (f : A → B) : B := f h
theorem ok_law_part_laws (T : Txt K mg) : FnOk P w K mg base CX0 2 T.law_part_laws.a T.law_part_laws.fd ["draws", "k", "part", "pool", "many"] (sp_part_laws K) := by
  refine T.law_part_laws.F.ok sc_law_part_laws (fun vs H Q E h => ?_) (fun cdv A outer s H vs Q E hr h => ?_)
  · obtain ⟨a, ds, k, v, p, pl, s, l, many, rfl, _⟩ := h
    rfl
  · obtain ⟨a, ds, k, v, p, pl, s, l, many, rfl, ha, hk, hp, l1, l2, g1, g2, ne, hpl, ll, m0, m3, q⟩ := h
    refine ⟨_, (pss_cons (ps_set (i := 5) sc_law_part_laws.nd rfl (.inl rfl) (pe_call (ok_law_own T) (hr.mono (by decide)) (by rfl) T.law_own.g T.law_own.F.kp T.law_own.b .nil pass0 (pa_cons (pv 2) pa_nil)))
      (pss_cons (ps_set (i := 6) sc_law_part_laws.nd rfl (.inl rfl) (pe_lst pa_nil))
      (pss_cons (ps_set (i := 7) sc_law_part_laws.nd rfl (.inr rfl) pe_int)
      (pss_cons (ps_for PassesOwn.never rfl (pi_range1 (by rfl) T.m_range (pa_cons (pv 4) pa_nil)) (pg_name (i := 8) sc_law_part_laws.nd rfl (.inl rfl))
        (pss_cons (ps_set (i := 9) sc_law_part_laws.nd rfl (.inr rfl) (pe_call (ok_law_at T) (hr.mono (by decide)) (by rfl) T.law_at.g T.law_at.F.kp T.law_at.b .nil pass0 (pa_cons (pv 0) (pa_cons (pe_op op_add (pv 1) (pv 8)) (pa_cons pe_int pa_nil)))))
        (pss_cons (ps_set (i := 10) sc_law_part_laws.nd rfl (.inl rfl) (pe_ix ix_list (pe_lst (pa_cons pe_str (pa_cons pe_str (pa_cons pe_str pa_nil)))) (pe_op op_mod (pe_callTy call_int1 (by rfl) T.m_int (by decide +kernel) (pa_cons (pv 9) pa_nil)) pe_int) (fun _ _ => rfl)))
        (pss_cons (ps_set (i := 11) sc_law_part_laws.nd rfl (.inr rfl) (pe_lst pa_nil))
        (pss_cons (ps_for PassesOwn.never rfl (pi_range1 (by rfl) T.m_range (pa_cons (pe_op op_add pe_int (pe_op op_mod (pe_callTy call_int1 (by rfl) T.m_int (by decide +kernel) (pa_cons (pe_op op_fdiv (pv 9) pe_int) pa_nil)) pe_int)) pa_nil)) (pg_name (i := 12) sc_law_part_laws.nd rfl (.inl rfl))
          (pss_cons (ps_set (i := 13) sc_law_part_laws.nd rfl (.inl rfl) (pe_tup (pa_cons (pe_op op_mod (pe_callTy call_int1 (by rfl) T.m_int (by decide +kernel) (pa_cons (pe_op op_fdiv (pv 9) (pe_op op_add pe_int (pe_op op_mul pe_int (pv 12)))) pa_nil)) pe_int) (pa_cons (pe_ix ix_list (pv 5) (pe_op op_mod (pe_callTy call_int1 (by rfl) T.m_int (by decide +kernel) (pa_cons (pe_op op_fdiv (pv 9) (pe_op op_add pe_int (pv 12))) pa_nil)) (pe_callB call_len_seq (by rfl) T.m_len (by decide +kernel) (pa_cons (pv 5) pa_nil))) (fun _ _ => rfl)) pa_nil))))
          (pss_one (ps_if (pt_cmpR (op_notInD (r65 hr)) (pv 13) (pv 11) rfl)
            (pss_one (ps_expr (pe_bm PySem.F.plainAttrs_list PySem.F.slot_list_append PySem.F.type_list_append mt_append (pv 11) (pa_cons (pv 13) pa_nil))))
            pss_nil))))
        (pss_one (ps_if (PW.pt (pw_or (pt_cmpR op_eq (pe_op op_mod (pe_callTy call_int1 (by rfl) T.m_int (by decide +kernel) (pa_cons (pe_op op_fdiv (pv 9) pe_int) pa_nil)) pe_int) pe_int (nomark _)) (pw_or1 (pt_cmpR op_lt (pe_callB call_len_seq (by rfl) T.m_len (by decide +kernel) (pa_cons (pv 11) pa_nil)) pe_int (nomark _)))))
          (pss_cons (ps_set (i := 14) sc_law_part_laws.nd rfl (.inr rfl) (pe_lst (pa_cons pe_int (pa_cons (pe_un un_neg pe_int) (pa_cons pe_int (pa_cons (pe_un un_neg pe_int) (pa_cons (pe_op op_add pe_int (pe_callTy call_int1 (by rfl) T.m_int (by decide +kernel) (pa_cons (pe_op op_fdiv (pv 9) pe_int) pa_nil))) (pa_cons (pe_un un_neg pe_int) pa_nil))))))))
          (pss_cons (ps_setLc (i := 15) (own := [("step", 12)]) rfl sc_law_part_laws.nd rfl rfl (sw_true rfl rfl rfl (by decide +kernel)) (pi_range1 (by rfl) T.m_range (pa_cons (pe_callB call_len_seq (by rfl) T.m_len (by decide +kernel) (pa_cons (pv 11) pa_nil)) pa_nil)) (blkOk_by (N := ["draws", "k", "part", "pool", "many", "known", "laws", "used", "turn", "cell", "source", "places", "step", "place", "numbers", "terms"]) (sc := defScope s_law_part_laws) (by decide +kernel)) (fun _ _ _ _ _ => (pg_name (i := 12) sc_law_part_laws.nd rfl (.inl rfl))) (fun _ _ _ _ _ => pts_nil) (fun _ _ _ _ _ => (pe_tup (pa_cons (pe_ix (r := rIxL K) ix_list (pv 14) (pe_op op_mod (pe_callTy call_int1 (by rfl) T.m_int (by decide +kernel) (pa_cons (pe_op op_add (pe_op op_fdiv (pv 9) pe_int) (pv 12)) pa_nil)) pe_int) (fun _ _ => rfl)) (pa_cons (pe_ix (r := rIxT K) ix_tup (pe_ix (r := rIxL K) ix_list (pv 11) (pv 12) (fun _ _ => rfl)) pe_int (fun _ _ => rfl)) (pa_cons (pe_ix (r := rIxT K) ix_tup (pe_ix (r := rIxL K) ix_list (pv 11) (pv 12) (fun _ _ => rfl)) pe_int (fun _ _ => rfl)) pa_nil))))))
          (pss_one (ps_expr (pe_bm PySem.F.plainAttrs_list PySem.F.slot_list_append PySem.F.type_list_append mt_append (pv 6) (pa_cons (pe_tup (pa_cons pe_str (pa_cons (pe_slice sl_list (pv 15) po_none (po_some (pe_op op_mod (pe_callTy call_int1 (by rfl) T.m_int (by decide +kernel) (pa_cons (pe_op op_fdiv (pv 9) pe_int) pa_nil)) pe_int))) (pa_cons (pv 10) pa_nil)))) pa_nil))))))
          (pss_cons (ps_setLc (i := 15) (own := [("step", 12)]) rfl sc_law_part_laws.nd rfl rfl (sw_true rfl rfl rfl (by decide +kernel)) (pi_range2 (by rfl) T.m_range (pa_cons pe_int (pa_cons (pe_callB call_len_seq (by rfl) T.m_len (by decide +kernel) (pa_cons (pv 11) pa_nil)) pa_nil))) (blkOk_by (N := ["draws", "k", "part", "pool", "many", "known", "laws", "used", "turn", "cell", "source", "places", "step", "place", "numbers", "terms"]) (sc := defScope s_law_part_laws) (by decide +kernel)) (fun _ _ _ _ _ => (pg_name (i := 12) sc_law_part_laws.nd rfl (.inl rfl))) (fun _ _ _ _ _ => pts_nil) (fun _ _ _ _ _ => (pe_tup (pa_cons (pe_ix (r := rIxL K) ix_list (pv 3) (pe_op op_sub (pe_op op_sub pe_int (pv 7)) (pv 12)) (fun _ _ => rfl)) (pa_cons (pe_ix (r := rIxT K) ix_tup (pe_ix (r := rIxL K) ix_list (pv 11) (pv 12) (fun _ _ => rfl)) pe_int (fun _ _ => rfl)) (pa_cons (pe_ix (r := rIxT K) ix_tup (pe_ix (r := rIxL K) ix_list (pv 11) (pv 12) (fun _ _ => rfl)) pe_int (fun _ _ => rfl)) pa_nil))))))
          (pss_cons (ps_set (i := 7) sc_law_part_laws.nd rfl (.inr rfl) (pe_op op_add (pv 7) (pe_callB call_len_seq (by rfl) T.m_len (by decide +kernel) (pa_cons (pv 15) pa_nil))))
          (pss_one (ps_expr (pe_bm PySem.F.plainAttrs_list PySem.F.slot_list_append PySem.F.type_list_append mt_append (pv 6) (pa_cons (pe_tup (pa_cons pe_str (pa_cons (pe_ix ix_tup (pe_ix ix_list (pv 11) pe_int (fun _ _ => rfl)) pe_int (fun _ _ => rfl)) (pa_cons (pe_ix ix_tup (pe_ix ix_list (pv 11) pe_int (fun _ _ => rfl)) pe_int (fun _ _ => rfl)) (pa_cons (pv 15) (pa_cons (pv 10) pa_nil)))))) pa_nil)))))))))))))
      (pss_one (ps_ret (pv 6))))))), ?_⟩
    obtain ⟨w, rfl⟩ : ∃ n : Nat, many = (n : Int) := ⟨many.toNat, by omega⟩
    have go := own_gs g1 g2
    refine ⟨v, rfl, v, p, rfl, hp, by omega, by omega, fun x hx => by have := (g1 x hx).1; omega, fun H1 kn sm1 nkn hkn => ?_⟩
    generalize own p.po p.inn = O at ne hkn go q
    refine ⟨by show 0 ≤ sizeLine; decide, fun lw nlw => ⟨_, rfl, _, rfl, by omega, by omega, ?_⟩⟩
    have smL := same_upd nlw (o := .lst [])
    rw [Int.toNat_natCast]
    refine for_it (walk_range (lo := 0) (n := w)) (fun i σ G => Same H1 G ∧ ∃ (u : Nat) (v8 v9 v10 v11 v12 v13 v14 v15 : Option V) (xs : List V) (ls : List Lw), σ = [some (.ref a), some (.int k), some v, some (.ref pl), some (.int (w : Nat)), some (.ref kn), some (.ref lw), some (.int (u : Nat)), v8, v9, v10, v11, v12, v13, v14, v15] ∧
        G lw = some (.lst xs) ∧ A2 (NwS H lw (LW K) G) xs ls ∧ (∀ x ∈ ls, VL O x) ∧ ls.length = i ∧ u ≤ 3 * i ∧ ls.flatMap Lw.sizes = (List.range u).map fun i => pn s l (39 - i))
      ⟨smL, 0, none, none, none, none, none, none, none, none, [], [], rfl, upd_same, .nil, (fun _ h => by cases h), rfl, by decide, rfl⟩ (fun _ _ _ _ _ => trivial) (fun i x σ G G' hi pv y => ?_) (fun σ G pv => ?_)
    · obtain ⟨sm, u, v8, v9, v10, v11, v12, v13, v14, v15, xs, ls, rfl, hlw, hA, hV, hn, hu, hs⟩ := pv
      obtain ⟨rfl, rfl⟩ := y
      have sH : Same H G' := sm1.trans sm
      refine ⟨.ref a, rfl, _, rfl, _, rfl, _, _, rfl, rfl, a, ds, _, 60000, rfl, ha.same sH, by omega, by decide, ?_⟩
      have c0 := la0 (ds := ds) (k := k + (0 + (i : Int))) (many := 60000) (by decide)
      have c1 := la1 (ds := ds) (k := k + (0 + (i : Int))) (many := 60000) (by decide)
      dsimp only
      generalize la ds (k + (0 + (i : Int))) 60000 = cell at c0 c1
      refine ⟨by show 3 ≤ sizeLine; decide, fun l0 n0 => ⟨_, rfl, .inl ⟨_, rfl, _, _, rfl, rfl, (by show (0 : Int) < _; decide), ?_⟩⟩⟩
      have s1 := same_upd n0 (o := .lst [V.str "", V.str "f", V.str "g1"])
      obtain ⟨sv, hs0, ms⟩ := at_ex (xs := [V.str "", V.str "f", V.str "g1"]) (i := cell % 3) (by omega) (by show cell % 3 < 3; omega)
      obtain ⟨src, rfl, gs⟩ : ∃ src : Str, sv = .str src ∧ (src = "" ∨ src = "f" ∨ src = "g1") := by
        rcases List.mem_cons.mp ms with rfl | ms
        · exact ⟨_, rfl, .inl rfl⟩
        rcases List.mem_cons.mp ms with rfl | ms
        · exact ⟨_, rfl, .inr (.inl rfl)⟩
        rcases List.mem_cons.mp ms with rfl | ms
        · exact ⟨_, rfl, .inr (.inr rfl)⟩
        · cases ms
      refine ⟨l0, _, _, _, rfl, rfl, .of upd_same, hs0, ?_⟩
      have hlw1 := s1 _ _ hlw
      have sm' := sm.trans s1
      have hA1 : A2 (NwS H lw (LW K) (upd G' l0 (.lst [V.str "", V.str "f", V.str "g1"]))) xs ls := NwS.all (sx s1) hA
      have sH1 := sH.trans s1
      generalize upd G' l0 _ = G1 at hlw1 sm' hA1 sH1
      clear hlw sm hA s1 hs0 sH n0
      refine ⟨by show 0 ≤ sizeLine; decide, fun pc npc => ?_⟩
      refine ⟨_, rfl, _, _, rfl, rfl, ⟨by decide, by decide⟩, .inl ⟨_, rfl, _, _, rfl, rfl, (by show (0 : Int) < _; decide), _, _, rfl, rfl, ?_⟩⟩
      obtain ⟨z, ez⟩ : ∃ n : Nat, 1 + cell / 3 % 4 = (n : Int) := ⟨(1 + cell / 3 % 4).toNat, by omega⟩
      refine ⟨_, rfl, by omega, by omega, ?_⟩
      rw [ez, Int.toNat_natCast]
      have smP := same_upd npc (o := .lst [])
      refine for_it (walk_range (lo := 0) (n := z)) (fun j σ G => Same G1 G ∧ ∃ (v12 v13 : Option V) (ys : List V) (ps : List (Nat × Str)), σ = [some (.ref a), some (.int k), some v, some (.ref pl), some (.int (w : Nat)), some (.ref kn), some (.ref lw), some (.int (u : Nat)), some (.int (0 + (i : Int))), some (.int cell), some (.str src), some (.ref pc), v12, v13, v14, v15] ∧
          G pc = some (.lst ys) ∧ A2 (Stb pc (NmV K) G) ys ps ∧ ps.Nodup ∧ (∀ x ∈ ps, x.1 < 4 ∧ x.2 ∈ O) ∧ ps.length ≤ j ∧ (0 < j → ps ≠ []))
        ⟨smP, v12, v13, [], [], rfl, upd_same, .nil, .nil, (fun _ h => by cases h), Nat.le_refl _, fun h => absurd h (by decide)⟩ (fun _ _ _ _ _ => trivial) (fun j x σ G Gx hj pv y => ?_) (fun σ G pv => ?_)
      · obtain ⟨sm2, v12, v13, ys, ps, rfl, hpc, hB, hnd, hb, hn2, h0⟩ := pv
        obtain ⟨rfl, rfl⟩ := y
        have hkn2 : Gx kn = some (.lst (O.map V.str)) := sm2 _ _ (sm' _ _ hkn)
        have lO : 0 < O.length := List.length_pos_iff.mpr ne
        refine ⟨_, rfl, _, rfl, _, _, rfl, rfl, .inl ⟨by decide, by omega⟩, _, _, rfl, rfl, _, _, rfl, rfl, ⟨by omega, by omega⟩, .inl ⟨_, rfl, _, _, rfl, rfl, (by show (0 : Int) < _; decide), ?_⟩⟩
        refine ⟨_, rfl, _, rfl, _, rfl, _, _, rfl, rfl, _, _, rfl, rfl, ⟨by omega, by omega⟩, .inl ⟨_, rfl, _, rfl, kn, _, rfl, .inl (.of hkn2), _, _, rfl, rfl, by rw [List.length_map]; omega, ?_⟩⟩
        obtain ⟨c, hc, mc⟩ := at_ex (xs := O.map V.str) (i := cell / (7 + (0 + (j : Int))) % (((O.map V.str).length : Nat) : Int)) (Int.emod_nonneg _ (by rw [List.length_map]; omega)) (Int.emod_lt_of_pos _ (by rw [List.length_map]; omega))
        obtain ⟨qn, hqn, rfl⟩ := List.mem_map.mp mc
        refine ⟨kn, _, _, _, rfl, rfl, .of hkn2, hc, by show 2 ≤ sizeLine; decide, fun t nt => ?_⟩
        clear hc mc
        have lk0 : 0 ≤ cell / (5 + 3 * (0 + (j : Int))) % 4 := by omega
        have lk1 : cell / (5 + 3 * (0 + (j : Int))) % 4 < 4 := by omega
        dsimp only
        generalize cell / (5 + 3 * (0 + (j : Int))) % 4 = kk at lk0 lk1
        obtain ⟨kk, rfl⟩ : ∃ n : Nat, kk = (n : Int) := ⟨kk.toNat, by omega⟩
        have tp : t ≠ pc := fun z => by rw [z, hpc] at nt; cases nt
        have hp2 := same_upd nt (o := .tup [.int (kk : Nat), .str qn]) _ _ hpc
        have hB2 : A2 (Stb pc (NmV K) (upd Gx t (.tup [.int (kk : Nat), .str qn]))) ys ps := Stb.all (sx (same_upd nt)) hB
        refine ⟨_, rfl, .ref pc, rfl, dP (kk, qn), ps.map dP, .tup (.of upd_same) (.cons (.int _) (.cons (.str _) .nil)), .lst (.of hp2) (dp_all (hB2.mono fun _ _ z => z.at)), shaped_dP (go _ hqn), shaped_dPs fun p hp => go _ (hb p hp).2, _, rfl, ?_⟩
        rw [in_dPs]
        refine ite2 (fun hin => ?_) (fun hin => ?_)
        · have hni : (kk, qn) ∉ ps := fun z => by rw [decide_eq_true z] at hin; cases hin
          refine ⟨.ref pc, rfl, .inl ⟨rfl, _, .of hp2⟩, _, rfl, pc, _, _, rfl, rfl, hp2, small' (by have := hB.len; omega), ?_⟩
          refine ⟨same_over (sm2.trans (same_upd nt)) npc, _, _, ys ++ [.ref t], ps ++ [(kk, qn)], rfl, upd_same, A2.snoc (fun G' sg => ⟨t, rfl, .of (sg _ _ tp (by rw [upd_ne tp]; exact upd_same))⟩) (Stb.all SameX.put hB2), ?_, fun x hx => ?_, by rw [List.length_append]; exact Nat.succ_le_succ hn2, fun _ => by simp⟩
          · exact List.nodup_append.mpr ⟨hnd, List.nodup_cons.mpr ⟨List.not_mem_nil, List.nodup_nil⟩, fun x hx y hy e => by simp at hy; subst hy; subst e; exact hni hx⟩
          · rcases List.mem_append.mp hx with hx | hx
            · exact hb x hx
            · simp at hx; subst hx; exact ⟨by show kk < 4; omega, hqn⟩
        · refine ⟨sm2.trans (same_upd nt), _, _, ys, ps, rfl, hp2, hB2, hnd, hb, by omega, fun _ z => ?_⟩
          subst z
          exact hin rfl
      · obtain ⟨sm2, v12, v13, ys, ps, rfl, hpc, hB, hnd, hb, hn2, h0⟩ := pv
        have hps : ps ≠ [] := h0 (by omega)
        have hlen : ps.length ≤ 4 := by omega
        have lys : ys.length = ps.length := hB.len
        refine ⟨_, rfl, _, _, rfl, rfl, ⟨by decide, by decide⟩, .inl ⟨_, rfl, _, _, rfl, rfl, (by show (0 : Int) < _; decide), rfl, _, rfl, ?_⟩⟩
        refine two ?_ (fun hT => ite2 (fun _ => iteT hT) (fun h2 => ⟨_, rfl, pc, _, rfl, .inl (.of hpc), _, _, rfl, rfl, _, rfl, ite2 (fun _ => hT) (fun h3 => ?_)⟩))
        · refine ⟨_, rfl, _, rfl, _, rfl, _, _, rfl, rfl, ⟨by decide, by decide⟩, .inl ⟨_, rfl, _, _, rfl, rfl, _, rfl, by show 6 ≤ sizeLine; decide, fun l1 n1 => ?_⟩⟩
          have hl1 : upd G l1 (.lst [V.int 1, V.int (-1), V.int 1000000, V.int (-1000000), V.int (3 + cell / 6), V.int (-2)]) l1 = some (.lst [V.int 1, V.int (-1), V.int 1000000, V.int (-1000000), V.int (3 + cell / 6), V.int (-2)]) := upd_same
          have s3 := same_upd n1 (o := .lst [V.int 1, V.int (-1), V.int 1000000, V.int (-1000000), V.int (3 + cell / 6), V.int (-2)])
          have hpc3 := s3 _ _ hpc
          have hB3 := Stb.all (sx s3) hB
          have sm3 := sm2.trans s3
          generalize upd G l1 _ = G3 at hl1 s3 hpc3 hB3 sm3
          have hlw3 := sm3 _ _ hlw1
          have hA3 := NwS.all (sx sm3) hA1
          refine ⟨_, rfl, pc, _, rfl, .inl (.of hpc3), (ps.length : Nat), by rw [lys], by omega, by omega, fun D nD => ?_⟩
          rw [Int.toNat_natCast]
          refine lc_inv (walk_range (lo := 0) (n := ps.length)) (fun j G vs => ∃ ts : List Trm, A2 (NwS2 H D lw (TmV K) G) vs ts ∧ (ts.map fun t => (t.k, t.q)) = ps.take j ∧ ∀ t ∈ ts, ∃ n : Int, t.h = .inl n ∧ n ≠ 0 ∧ n.natAbs ≤ 1000000) nD (fun _ _ => trivial) (small' (by omega)) ⟨[], .nil, rfl, fun _ z => by cases z⟩ (fun j x G4 Gx zs hj sm4 hD hR y Qt Qf qt qf => ?_) (fun G4 zs sm4 hD hR => ?_)
          · obtain ⟨rfl, rfl⟩ := y
            obtain ⟨ts, hT, ep, en⟩ := hR
            obtain ⟨b', hb1, st⟩ := hB3.get' (i := j) (b := ps[j]) (by simp [hj])
            obtain ⟨b, rfl, qb⟩ := st.at
            have ab : atI ys (0 + (j : Int)) = some (.ref b) := by rw [Int.zero_add]; exact atI_nat hb1
            have qb4 := Same.seqT sm4 qb
            have hpc4 := sm4 _ _ hpc3
            have hlw4 := sm4 _ _ hlw3
            obtain ⟨nv, hnv, mnv⟩ := at_ex (xs := [V.int 1, V.int (-1), V.int 1000000, V.int (-1000000), V.int (3 + cell / 6), V.int (-2)]) (i := (cell / 24 + (0 + (j : Int))) % 6) (by omega) (by show _ < (6 : Int); omega)
            obtain ⟨n, rfl, n0, nb⟩ : ∃ n : Int, nv = .int n ∧ n ≠ 0 ∧ n.natAbs ≤ 1000000 := by
              simp only [List.mem_cons, List.not_mem_nil, or_false] at mnv
              rcases mnv with rfl | rfl | rfl | rfl | rfl | rfl
              · exact ⟨_, rfl, by decide, by decide⟩
              · exact ⟨_, rfl, by decide, by decide⟩
              · exact ⟨_, rfl, by decide, by decide⟩
              · exact ⟨_, rfl, by decide, by decide⟩
              · exact ⟨_, rfl, by omega, by omega⟩
              · exact ⟨_, rfl, by decide, by decide⟩
            refine ⟨rfl, _, rfl, _, rfl, _, _, rfl, rfl, ⟨by decide, by decide⟩, _, rfl, _, _, rfl, rfl, .inl ⟨_, rfl, _, _, rfl, rfl, (by show (0 : Int) < _; decide), l1, _, _, _, rfl, rfl, .of (sm4 _ _ hl1), hnv, ?_⟩⟩
            refine ⟨_, rfl, _, rfl, pc, _, _, _, rfl, rfl, .of hpc4, ab, b, _, _, _, rfl, rfl, qb4, rfl, _, rfl, _, rfl, pc, _, _, _, rfl, rfl, .of hpc4, ab, b, _, _, _, rfl, rfl, qb4, rfl, by show 3 ≤ sizeLine; decide, fun t nt3 => ?_⟩
            have tD : t ≠ D := fun z => by rw [z, hD] at nt3; cases nt3
            have tw : t ≠ lw := fun z => by rw [z, hlw4] at nt3; cases nt3
            refine qt _ _ (same_upd nt3) ⟨ts ++ [⟨.inl n, (ps[j]).1, (ps[j]).2⟩], A2.snoc (fun G' sg => ⟨t, rfl, .of (sg _ _ (same_none (sH1.trans (sm3.trans sm4)) nt3) tD tw (by rw [upd_ne tD]; exact upd_same))⟩) (NwS2.all (fun c o a _ z => by rw [upd_ne a]; exact same_upd nt3 _ _ z) hT), ?_, fun x hx => ?_⟩
            · rw [List.map_append, ep, take_snoc (x := ps[j]) (by simp [hj])]; rfl
            · rcases List.mem_append.mp hx with hx | hx
              · exact en x hx
              · simp at hx; subst hx; exact ⟨n, rfl, n0, nb⟩
          · obtain ⟨ts, hT, ep, en⟩ := hR
            rw [List.take_length] at ep
            have hlw4 := sm4 _ _ hlw3
            refine ⟨.ref lw, rfl, .inl ⟨rfl, _, .of hlw4⟩, _, rfl, _, rfl, _, _, rfl, rfl, ⟨by decide, by decide⟩, .inl ⟨_, rfl, _, _, rfl, rfl, (by show (0 : Int) < _; decide), _, rfl, D, _, rfl, .of hD, fun c nc => ⟨_, rfl, by show 3 ≤ sizeLine; decide, fun t nt => ?_⟩⟩⟩
            have em : cell / 48 % 5 = (((cell / 48 % 5).toNat : Nat) : Int) := by omega
            dsimp only at nt ⊢
            rw [cut_to em] at nt ⊢
            have lm : (cell / 48 % 5).toNat ≤ 4 := by omega
            generalize (cell / 48 % 5).toNat = m at lm nt
            clear em
            have lzs := hT.len
            have lts : ts.length = ps.length := by rw [← List.length_map (f := fun t : Trm => (t.k, t.q)), ep]
            have s5 : Same G4 (upd (upd G4 c (.lst (zs.take m))) t (.tup [.str "exact", .ref c, .str src])) := (same_upd nc).trans (same_upd nt)
            have hlw5 := s5 _ _ hlw4
            have cw : c ≠ lw := fun z => by rw [z, hlw4] at nc; cases nc
            have cD : c ≠ D := fun z => by rw [z, hD] at nc; cases nc
            have tw : t ≠ lw := fun z => by rw [z, (same_upd nc) _ _ hlw4] at nt; cases nt
            have tc : c ≠ t := fun z => by rw [← z, upd_same] at nt; cases nt
            refine ⟨lw, _, _, rfl, rfl, hlw5, small' (by have := hA1.len; omega), ?_⟩
            have ep' : ((ts.take m).map fun t => (t.k, t.q)) = ps.take m := by rw [List.map_take, ep]
            refine ⟨same_over ((sm'.trans (sm3.trans sm4)).trans s5) nlw, u, _, _, _, _, _, _, _, _, xs ++ [.ref t], ls ++ [⟨true, 0, "", ts.take m, src⟩], rfl, upd_same, A2.snoc (fun G' sg => ?_) (NwS.all (((sx sm4).trans (sx s5)).trans SameX.put) hA3), fun x hx => ?_, by rw [List.length_append, hn]; rfl, by omega, ?_⟩
            · have sH4 : Same H G4 := sH1.trans (sm3.trans sm4)
              have up : ∀ (b : Addr) (o : HO), H b = none → b ≠ lw → upd (upd G4 c (.lst (zs.take m))) t (.tup [.str "exact", .ref c, .str src]) b = some o → G' b = some o := fun b o n0 nb hb => sg _ _ n0 nb (by rw [upd_ne nb]; exact hb)
              refine ⟨t, c, rfl, ⟨zs.take m, up _ _ (same_none sH4 nc) cw (by rw [upd_ne tc, upd_same]), A2.mono (fun _ _ z => z G' fun b o n0 nD nw hb => ?_) (A2.take m hT)⟩, .inl ⟨rfl, .of (up _ _ (same_none (sH4.trans (same_upd nc)) nt) tw upd_same)⟩⟩
              exact up _ _ n0 nw (s5 _ _ hb)
            · rcases List.mem_append.mp hx with hx | hx
              · exact hV x hx
              · simp at hx; subst hx
                refine ⟨gs, ?_, ?_, fun _ t ht => en t (List.mem_of_mem_take ht), (fun z => by cases z), by show (ts.take m).length ≤ 4; rw [List.length_take]; omega⟩
                · show (List.map _ _).Nodup
                  rw [ep']
                  exact List.Nodup.sublist (List.take_sublist _ _) hnd
                · show ∀ p ∈ List.map _ _, _
                  rw [ep']
                  exact fun p hp => hb p (List.mem_of_mem_take hp)
            · rw [List.flatMap_append, hs]
              show _ ++ ([] ++ []) = _
              rw [List.append_nil, List.append_nil]
        · have h3' : 2 ≤ ps.length := by
            rcases Nat.lt_or_ge ps.length 2 with z | z
            · exact absurd (decide_eq_true (by rw [lys]; omega)) h3
            · exact z
          have hlw3 := sm2 _ _ hlw1
          have hA3 := NwS.all (sx sm2) hA1
          have hpl3 : G pl = some (.lst ((pool s l).map V.str)) := sm2 _ _ (sm' _ _ (sm1 _ _ hpl))
          refine ⟨_, rfl, pc, _, rfl, .inl (.of hpc), 1, (ps.length : Nat), by rw [lys], ⟨by decide, by decide, by omega, by omega⟩, fun D nD => ?_⟩
          have hpsE : ∃ p0 pr, ps = p0 :: pr := by
            cases ps with
            | nil => exact absurd rfl hps
            | cons p0 pr => exact ⟨p0, pr, rfl⟩
          obtain ⟨p0, pr, rfl⟩ := hpsE
          rw [show (((p0 :: pr).length : Nat) - (1 : Int)).toNat = pr.length from by rw [List.length_cons]; omega]
          rw [List.length_cons] at h3' hlen lys
          refine lc_inv (walk_range (lo := 1) (n := pr.length)) (fun j G vs => ∃ ts : List Trm, A2 (NwS2 H D lw (TmV K) G) vs ts ∧ (ts.map fun t => (t.k, t.q)) = pr.take j ∧ (ts.map fun t => t.h) = (List.range j).map fun i => Sum.inr (pn s l (39 - (u + i)))) nD (fun _ _ => trivial) (small' (by omega)) ⟨[], .nil, rfl, rfl⟩ (fun j x G4 Gx zs hj sm4 hD hR y Qt Qf qt qf => ?_) (fun G4 zs sm4 hD hR => ?_)
          · obtain ⟨rfl, rfl⟩ := y
            obtain ⟨ts, hT, ep, en⟩ := hR
            obtain ⟨b', hb1, st⟩ := hB.get' (i := j + 1) (b := pr[j]) (by simp [hj])
            obtain ⟨b, rfl, qb⟩ := st.at
            have ab : atI ys (1 + (j : Int)) = some (.ref b) := by
              rw [show (1 + (j : Int)) = ((j + 1 : Nat) : Int) from by omega]; exact atI_nat hb1
            have qb4 := Same.seqT sm4 qb
            have hpc4 := sm4 _ _ hpc
            have hlw4 := sm4 _ _ hlw3
            refine ⟨rfl, _, rfl, _, rfl, _, _, rfl, rfl, _, rfl, _, _, rfl, rfl, pl, _, _, _, rfl, rfl, .of (sm4 _ _ hpl3), pool_at (i := 39 - (u + j)) (by omega) (by omega), ?_⟩
            refine ⟨_, rfl, _, rfl, pc, _, _, _, rfl, rfl, .of hpc4, ab, b, _, _, _, rfl, rfl, qb4, rfl, _, rfl, _, rfl, pc, _, _, _, rfl, rfl, .of hpc4, ab, b, _, _, _, rfl, rfl, qb4, rfl, by show 3 ≤ sizeLine; decide, fun t nt3 => ?_⟩
            have tD : t ≠ D := fun z => by rw [z, hD] at nt3; cases nt3
            have tw : t ≠ lw := fun z => by rw [z, hlw4] at nt3; cases nt3
            refine qt _ _ (same_upd nt3) ⟨ts ++ [⟨.inr _, (pr[j]).1, (pr[j]).2⟩], A2.snoc (fun G' sg => ⟨t, rfl, .of (sg _ _ (same_none (sH1.trans (sm2.trans sm4)) nt3) tD tw (by rw [upd_ne tD]; exact upd_same))⟩) (NwS2.all (fun c o a _ z => by rw [upd_ne a]; exact same_upd nt3 _ _ z) hT), ?_, ?_⟩
            · rw [List.map_append, ep, take_snoc (x := pr[j]) (by simp [hj])]; rfl
            · rw [List.map_append, en, List.range_succ, List.map_append]; rfl
          · obtain ⟨ts, hT, ep, en⟩ := hR
            rw [List.take_length] at ep
            have hlw4 := sm4 _ _ hlw3
            have hpc4 := sm4 _ _ hpc
            obtain ⟨b', hb1, st⟩ := hB.get' (i := 0) (b := p0) rfl
            obtain ⟨b, rfl, qb⟩ := st.at
            have ab : atI ys 0 = some (.ref b) := atI_nat (j := 0) hb1
            have qb4 := Same.seqT sm4 qb
            have lzs := hT.len
            have lts : ts.length = pr.length := by rw [← List.length_map (f := fun t : Trm => (t.k, t.q)), ep]
            refine ⟨_, rfl, _, rfl, D, _, rfl, .inl (.of hD), _, _, rfl, rfl, ?_⟩
            refine ⟨.ref lw, rfl, .inl ⟨rfl, _, .of hlw4⟩, _, rfl, pc, _, _, _, rfl, rfl, .of hpc4, ab, b, _, _, _, rfl, rfl, qb4, rfl, _, rfl, pc, _, _, _, rfl, rfl, .of hpc4, ab, b, _, _, _, rfl, rfl, qb4, rfl, _, rfl, _, rfl, by show 5 ≤ sizeLine; decide, fun t nt => ?_⟩
            have tw : t ≠ lw := fun z => by rw [z, hlw4] at nt; cases nt
            have Dw : D ≠ lw := fun z => by rw [z, hlw3] at nD; cases nD
            have tD : D ≠ t := fun z => by rw [← z, hD] at nt; cases nt
            have s5 : Same G4 (upd G4 t (.tup [.str "sized", .int (p0.1 : Nat), .str p0.2, .ref D, .str src])) := same_upd nt
            have hlw5 := s5 _ _ hlw4
            refine ⟨lw, _, _, rfl, rfl, hlw5, small' (by have := hA1.len; omega), ?_⟩
            refine ⟨same_over ((sm'.trans (sm2.trans sm4)).trans s5) nlw, u + zs.length, _, _, _, _, _, _, _, _, xs ++ [.ref t], ls ++ [⟨false, p0.1, p0.2, ts, src⟩], rfl, upd_same, A2.snoc (fun G' sg => ?_) (NwS.all (((sx sm4).trans (sx s5)).trans SameX.put) hA3), fun x hx => ?_, by rw [List.length_append, hn]; rfl, by omega, ?_⟩
            · have sH4 : Same H G4 := sH1.trans (sm2.trans sm4)
              have up : ∀ (b : Addr) (o : HO), H b = none → b ≠ lw → upd G4 t (.tup [.str "sized", .int (p0.1 : Nat), .str p0.2, .ref D, .str src]) b = some o → G' b = some o := fun b o n0 nb hb => sg _ _ n0 nb (by rw [upd_ne nb]; exact hb)
              refine ⟨t, D, rfl, ⟨zs, up _ _ (same_none (sH1.trans sm2) nD) Dw (s5 _ _ hD), A2.mono (fun _ _ z => z G' fun b o n0 nD nw hb => up _ _ n0 nw (s5 _ _ hb)) hT⟩, .inr ⟨rfl, .of (up _ _ (same_none sH4 nt) tw upd_same)⟩⟩
            · rcases List.mem_append.mp hx with hx | hx
              · exact hV x hx
              · simp at hx; subst hx
                refine ⟨gs, ?_, ?_, (fun z => by cases z), fun _ => ⟨fun z => ?_, fun t ht => ?_⟩, by show ts.length ≤ 4; omega⟩
                · show ((p0.1, p0.2) :: List.map _ _).Nodup
                  rw [ep]
                  exact hnd
                · show ∀ p ∈ (p0.1, p0.2) :: List.map _ _, _
                  rw [ep]
                  exact hb
                · have z : ts = [] := z
                  rw [z] at lts
                  rw [← lts] at h3'
                  exact absurd h3' (by decide)
                · have m : t.h ∈ ts.map fun t => t.h := List.mem_map_of_mem ht
                  rw [en] at m
                  obtain ⟨i, _, e⟩ := List.mem_map.mp m
                  exact ⟨_, e.symm, pn_gs ll (by omega)⟩
            · rw [List.flatMap_append, hs, List.range_add, List.map_append]
              congr 1
              show List.map _ ts ++ [] = _
              rw [List.append_nil, List.map_map, lzs, lts]
              rw [show (ts.map fun t => hS t.h) = (ts.map fun t => t.h).map hS from by rw [List.map_map]; rfl, en, List.map_map]
              rfl
    · obtain ⟨sm, u, v8, v9, v10, v11, v12, v13, v14, v15, xs, ls, rfl, hlw, hA, hV, hn, hu, hs⟩ := pv
      exact ⟨_, rfl, q G lw ls (sm1.trans sm) (same_none sm1 nlw) (fun H'' sg => ⟨xs, sg _ _ (same_none sm1 nlw) hlw, hA.mono fun _ _ z => z H'' fun c o n _ h => sg c o n h⟩) ⟨hV, by omega, u, by omega, hs⟩⟩
end
end K08
-- K8
namespace K08
open PySem PySem.Spec PyProof.Rows L2
section
variable {P : Program} {w : World} {K : PySem.W.Frag} {mg : Str → Option Value} {base : Heap}
/-! ### a part -/
/-- the texts of a part's ports, its places as pairs of a name and a part -/
def txs (po : List Str) (pk : List (Str × Prt)) : List Str := po ++ pk.flatMap fun x => x.2.po.map fun q => x.1 ++ ("." : Str) ++ q
def jok (tx : List Str) (j : List Str) : Prop := j.Nodup ∧ 2 ≤ j.length ∧ j.length ≤ 4 ∧ ∀ t ∈ j, t ∈ tx
/-- a part behind others -/
structure VP (bef : List Prt) (s l a b : Nat) (pk : List (Str × Prt)) (p : Prt) : Prop where
  hs : s < 26
  hl : l < 2
  ha : a < 4
  hb : b < 4
  po : p.po = (pool s l).take a
  inn : p.inn = ((pool s l).drop 4).take b
  pl : p.pl = pk.map fun x => (x.1, x.2.nm)
  inb : ∀ x ∈ pk, x.2 ∈ bef
  nm : pk.map (·.1) = (List.range pk.length).map fun i => pn s l (9 + i)
  many : pk.length < 4
  ls : VLs (own p.po p.inn) s l p.ls
  jm : p.jo.length ≤ 3
  jo : ∀ j ∈ p.jo, jok (txs p.po pk) j
theorem in_strs (t : Str) (j : List Str) : inV (.str t) (j.map V.str) = decide (t ∈ j) := by
  induction j with
  | nil => rfl
  | cons x r ih =>
    rw [show inV (.str t) ((x :: r).map V.str) = (eqV (.str x) (.str t) || inV (.str t) (r.map V.str)) from rfl, ih]
    by_cases e : x = t
    · subst e; simp [eqV]
    · have : ¬ t = x := fun z => e z.symm
      simp [eqV, e, this]
theorem cut_mid {xs : List V} {z w : Int} {L M : Nat} (e : z = (L : Int)) (e' : w = ((L + M : Nat) : Int)) (h : L + M ≤ xs.length) : cutV xs (some z) (some w) = (xs.drop L).take M := by
  subst e
  subst e'
  unfold cutV
  rw [HT.sIx_nat, HT.sIx_nat, Nat.min_eq_left h, Nat.min_eq_left (by omega), Nat.add_sub_cancel_left]
theorem mul01 {x f : Int} (h0 : 0 ≤ x) (h1 : x < 4) (f0 : 0 ≤ f) (f1 : f ≤ 1) : ∃ n : Nat, x * f = (n : Int) ∧ n < 4 ∧ (0 < n → 0 < f) := by
  have : f = 0 ∨ f = 1 := by omega
  rcases this with rfl | rfl
  · exact ⟨0, by rw [Int.mul_zero]; rfl, by decide, fun h => absurd h (by decide)⟩
  · exact ⟨x.toNat, by rw [Int.mul_one]; omega, by omega, fun _ => by decide⟩
theorem some01 (n : Nat) (m : Int) : ∃ f : Int, (if decide (m < ((n : Nat) : Int)) = true then (1 : Int) else 0) = f ∧ 0 ≤ f ∧ f ≤ 1 ∧ (0 < f → m < n) := by
  refine ⟨_, rfl, ?_⟩
  by_cases h : m < n
  · rw [if_pos (decide_eq_true h)]
    exact ⟨by decide, by decide, fun _ => h⟩
  · rw [if_neg (fun z => h (of_decide_eq_true z))]
    exact ⟨by decide, by decide, fun z => absurd z (by decide)⟩
theorem txs_len {po : List Str} {pk : List (Str × Prt)} (h : ∀ x ∈ pk, x.2.po.length ≤ 3) : (txs po pk).length ≤ po.length + 3 * pk.length := by
  unfold txs
  rw [List.length_append]
  have : (pk.flatMap fun x => x.2.po.map fun q => x.1 ++ ("." : Str) ++ q).length ≤ 3 * pk.length := by
    induction pk with
    | nil => exact Nat.le_refl _
    | cons x r ih =>
      rw [List.flatMap_cons, List.length_append, List.length_map, List.length_cons]
      have := h x List.mem_cons_self
      have := ih fun y hy => h y (List.mem_cons_of_mem _ hy)
      omega
  omega
theorem pool_gs {s l : Nat} (hl : l < 2) : ∀ x ∈ pool s l, GS 12 x := fun x hx => by
  obtain ⟨i, hi, rfl⟩ := List.mem_map.mp hx
  exact pn_gs hl (List.mem_range.mp hi)
theorem ps_via {X : Cx} {st : Stmt} {t t' : TS} (h : PS X st t) (f : ∀ D σ H, t' D σ H → t D σ H) : PS X st t' := ⟨fun pins s σ H D I z => h.run pins s σ H D I (f D σ H z)⟩
/-- the laws are made, if there are names for them -/
def TSk (K : PySem.W.Frag) (H0 : Hp) (a : Addr) (k : Int) (nm : Str) (bk : Addr) (ds : List Int) : TS := fun Dn σ G => ∃ (pl po inn plc tx la jo pt : Addr) (x9 x10 : Option V) (p : Prt) (s l : Nat),
  σ = [some (.ref a), some (.int k), some (.str nm), some (.ref bk), some (.ref pl), some (.ref po), some (.ref inn), some (.ref plc), some (.ref tx), x9, x10, some (.ref pt), none, none, none, none, none, none] ∧ Same H0 G ∧ IL G a ds ∧ 0 ≤ k ∧ SL G pl (pool s l) ∧ l < 2 ∧
  p.nm = nm ∧ p.po.length ≤ 3 ∧ p.inn.length ≤ 3 ∧ (∀ x ∈ p.po, GS 12 x) ∧ (∀ x ∈ p.inn, GS 12 x) ∧ p.ls = [] ∧ p.jo = [] ∧ SL G po p.po ∧ SL G inn p.inn ∧ PlL K G plc p.pl ∧ H0 la = none ∧ G la = some (.lst []) ∧ G jo = some (.lst []) ∧ G pt = some (.tup [.str nm, .ref po, .ref inn, .ref plc, .ref la, .ref jo]) ∧
  ∀ (G' : Hp) (pt' la' jo' : Addr) (ls : List Lw), Same G G' → G' pt' = some (.tup [.str nm, .ref po, .ref inn, .ref plc, .ref la', .ref jo']) → H0 la' = none → (∀ H'', (∀ c o, H0 c = none → G' c = some o → H'' c = some o) → LsL K H'' la' ls) → VLs (own p.po p.inn) s l ls →
    Dn.nx [some (.ref a), some (.int k), some (.str nm), some (.ref bk), some (.ref pl), some (.ref po), some (.ref inn), some (.ref plc), some (.ref tx), x9, x10, some (.ref pt'), none, none, none, none, none, none] G'
def sp_law_part (K : PySem.W.Frag) : Sp := fun vs H Q _ => ∃ (a : Addr) (ds : List Int) (k : Int) (nm : Str) (bk : Addr) (bef : List Prt), vs = [.ref a, .int k, .str nm, .ref bk] ∧ IL H a ds ∧ 0 ≤ k ∧ BK K H bk bef ∧ bef.length ≤ 1000 ∧ (∀ x ∈ bef, x.po.length ≤ 3 ∧ ∀ y ∈ x.po, GS 12 y) ∧
  ∀ (H' : Hp) (v : V) (s l aa b : Nat) (pk : List (Str × Prt)) (p : Prt), Same H H' → Nw H (PT K) H' v p → VP bef s l aa b pk p → p.nm = nm → Q v H'
theorem ok_law_part (T : Txt K mg) : FnOk P w K mg base CX0 3 T.law_part.a T.law_part.fd ["draws", "k", "name", "book"] (sp_law_part K) := by
  refine T.law_part.F.ok sc_law_part (fun vs H Q E h => ?_) (fun cdv A outer s H vs Q E hr h => ?_)
  · obtain ⟨a, ds, k, nm, bk, bef, rfl, _⟩ := h
    rfl
  · obtain ⟨a, ds, k, nm, bk, bef, rfl, ha, hk, ⟨xs, hbk, hA⟩, hbl, hbp, q⟩ := h
    refine ⟨_, (pss_cons (ps_set (i := 4) sc_law_part.nd rfl (.inr rfl) (pe_call (ok_law_pool T) (hr.mono (by decide)) (by rfl) T.law_pool.g T.law_pool.F.kp T.law_pool.b .nil pass0 (pa_cons (pv 0) (pa_cons (pv 1) pa_nil))))
      (pss_cons (ps_set (i := 5) sc_law_part.nd rfl (.inl rfl) (pe_slice sl_list (pv 4) po_none (po_some (pe_call (ok_law_at T) (hr.mono (by decide)) (by rfl) T.law_at.g T.law_at.F.kp T.law_at.b .nil pass0 (pa_cons (pv 0) (pa_cons (pe_op op_add (pv 1) pe_int) (pa_cons pe_int pa_nil)))))))
      (pss_cons (ps_set (i := 6) sc_law_part.nd rfl (.inl rfl) (pe_slice sl_list (pv 4) (po_some pe_int) (po_some (pe_op op_add pe_int (pe_call (ok_law_at T) (hr.mono (by decide)) (by rfl) T.law_at.g T.law_at.F.kp T.law_at.b .nil pass0 (pa_cons (pv 0) (pa_cons (pe_op op_add (pv 1) pe_int) (pa_cons pe_int pa_nil))))))))
      (pss_cons (ps_set (i := 7) sc_law_part.nd rfl (.inl rfl) (pe_lst pa_nil))
      (pss_cons (ps_set (i := 8) sc_law_part.nd rfl (.inl rfl) (pe_callTy call_list_of (by rfl) T.m_list (by decide +kernel) (pa_cons (pv 5) pa_nil)))
      (pss_cons (ps_for PassesOwn.never rfl (pi_range1 (by rfl) T.m_range (pa_cons (pe_op op_mul (pe_call (ok_law_at T) (hr.mono (by decide)) (by rfl) T.law_at.g T.law_at.F.kp T.law_at.b .nil pass0 (pa_cons (pv 0) (pa_cons (pe_op op_add (pv 1) pe_int) (pa_cons pe_int pa_nil)))) (pe_callTy call_int1 (by rfl) T.m_int (by decide +kernel) (pa_cons (pe_cmpR op_gt (pe_callB call_len_seq (by rfl) T.m_len (by decide +kernel) (pa_cons (pv 3) pa_nil)) pe_int (nomark _)) pa_nil))) pa_nil)) (pg_name (i := 9) sc_law_part.nd rfl (.inr rfl))
        (pss_cons (ps_set (i := 10) sc_law_part.nd rfl (.inl rfl) (pe_ix ix_list (pv 3) (pe_call (ok_law_at T) (hr.mono (by decide)) (by rfl) T.law_at.g T.law_at.F.kp T.law_at.b .nil pass0 (pa_cons (pv 0) (pa_cons (pe_op op_add (pe_op op_add (pv 1) pe_int) (pv 9)) (pa_cons (pe_callB call_len_seq (by rfl) T.m_len (by decide +kernel) (pa_cons (pv 3) pa_nil)) pa_nil)))) (fun _ _ => rfl)))
        (pss_cons (ps_expr (pe_bm PySem.F.plainAttrs_list PySem.F.slot_list_append PySem.F.type_list_append mt_append (pv 7) (pa_cons (pe_tup (pa_cons (pe_ix ix_list (pv 4) (pe_op op_add pe_int (pv 9)) (fun _ _ => rfl)) (pa_cons (pe_ix ix_tup (pv 10) pe_int (fun _ _ => rfl)) pa_nil))) pa_nil)))
        (pss_one (ps_set (i := 8) sc_law_part.nd rfl (.inl rfl) (pe_op op_cat (pv 8) (pe_lc (own := [("port", 17)]) rfl sc_law_part.nd (pi_list (pe_ix ix_tup (pv 10) pe_int (fun _ _ => rfl))) (blkOk_by (N := ["draws", "k", "name", "book", "pool", "ports", "inner", "places", "texts", "turn", "kind", "part", "joints", "cell", "joint", "step", "text", "port"]) (sc := defScope s_law_part) (by decide +kernel)) (fun _ _ _ _ _ => (pg_name (i := 17) sc_law_part.nd rfl (.inl rfl))) (fun _ _ _ _ _ => pts_nil) (fun _ _ _ _ _ => (pe_op op_add_str (pe_op op_add_str (pe_ix (r := rIxL K) ix_list (pv 4) (pe_op op_add pe_int (pv 9)) (fun _ _ => rfl)) pe_str) (pv 17))))))))))
      (pss_cons (ps_set (i := 11) sc_law_part.nd rfl (.inl rfl) (pe_tup (pa_cons (pv 2) (pa_cons (pv 5) (pa_cons (pv 6) (pa_cons (pv 7) (pa_cons (pe_lst pa_nil) (pa_cons (pe_lst pa_nil) pa_nil))))))))
      (pss_cons (ps_via (t' := TSk K H a k nm bk ds) (ps_if (pt_cmpR op_gt (pe_op op_add (pe_callB call_len_seq (by rfl) T.m_len (by decide +kernel) (pa_cons (pv 5) pa_nil)) (pe_callB call_len_seq (by rfl) T.m_len (by decide +kernel) (pa_cons (pv 6) pa_nil))) pe_int (nomark _))
        (pss_one (ps_set (i := 11) sc_law_part.nd rfl (.inl rfl) (pe_tup (pa_cons (pv 2) (pa_cons (pv 5) (pa_cons (pv 6) (pa_cons (pv 7) (pa_cons (pe_call (ok_law_part_laws T) (hr.mono (by decide)) (by rfl) T.law_part_laws.g T.law_part_laws.F.kp T.law_part_laws.b .nil pass0 (pa_cons (pv 0) (pa_cons (pe_op op_add (pv 1) pe_int) (pa_cons (pv 11) (pa_cons (pv 4) (pa_cons (pe_call (ok_law_at T) (hr.mono (by decide)) (by rfl) T.law_at.g T.law_at.F.kp T.law_at.b .nil pass0 (pa_cons (pv 0) (pa_cons (pe_op op_add (pv 1) pe_int) (pa_cons pe_int pa_nil)))) pa_nil)))))) (pa_cons (pe_lst pa_nil) pa_nil)))))))))
        pss_nil) ?vial)
      (pss_cons (ps_set (i := 12) sc_law_part.nd rfl (.inl rfl) (pe_lst pa_nil))
      (pss_cons (ps_for PassesOwn.never rfl (pi_range1 (by rfl) T.m_range (pa_cons (pe_op op_mul (pe_call (ok_law_at T) (hr.mono (by decide)) (by rfl) T.law_at.g T.law_at.F.kp T.law_at.b .nil pass0 (pa_cons (pv 0) (pa_cons (pe_op op_add (pv 1) pe_int) (pa_cons pe_int pa_nil)))) (pe_callTy call_int1 (by rfl) T.m_int (by decide +kernel) (pa_cons (pe_cmpR op_gt (pe_callB call_len_seq (by rfl) T.m_len (by decide +kernel) (pa_cons (pv 8) pa_nil)) pe_int (nomark _)) pa_nil))) pa_nil)) (pg_name (i := 9) sc_law_part.nd rfl (.inr rfl))
        (pss_cons (ps_set (i := 13) sc_law_part.nd rfl (.inl rfl) (pe_call (ok_law_at T) (hr.mono (by decide)) (by rfl) T.law_at.g T.law_at.F.kp T.law_at.b .nil pass0 (pa_cons (pv 0) (pa_cons (pe_op op_add (pe_op op_add (pv 1) pe_int) (pv 9)) (pa_cons pe_int pa_nil)))))
        (pss_cons (ps_set (i := 14) sc_law_part.nd rfl (.inl rfl) (pe_lst pa_nil))
        (pss_cons (ps_for PassesOwn.never rfl (pi_range1 (by rfl) T.m_range (pa_cons (pe_op op_add pe_int (pe_op op_mod (pe_callTy call_int1 (by rfl) T.m_int (by decide +kernel) (pa_cons (pv 13) pa_nil)) pe_int)) pa_nil)) (pg_name (i := 15) sc_law_part.nd rfl (.inl rfl))
          (pss_cons (ps_set (i := 16) sc_law_part.nd rfl (.inl rfl) (pe_ix ix_list (pv 8) (pe_op op_mod (pe_callTy call_int1 (by rfl) T.m_int (by decide +kernel) (pa_cons (pe_op op_fdiv (pv 13) (pe_op op_add pe_int (pe_op op_mul pe_int (pv 15)))) pa_nil)) (pe_callB call_len_seq (by rfl) T.m_len (by decide +kernel) (pa_cons (pv 8) pa_nil))) (fun _ _ => rfl)))
          (pss_one (ps_if (pt_cmpR op_notIn_seq (pv 16) (pv 14) rfl)
            (pss_one (ps_expr (pe_bm PySem.F.plainAttrs_list PySem.F.slot_list_append PySem.F.type_list_append mt_append (pv 14) (pa_cons (pv 16) pa_nil))))
            pss_nil))))
        (pss_one (ps_if (pt_cmpR op_gt (pe_callB call_len_seq (by rfl) T.m_len (by decide +kernel) (pa_cons (pv 14) pa_nil)) pe_int (nomark _))
          (pss_one (ps_expr (pe_bm PySem.F.plainAttrs_list PySem.F.slot_list_append PySem.F.type_list_append mt_append (pv 12) (pa_cons (pv 14) pa_nil))))
          pss_nil))))))
      (pss_one (ps_ret (pe_op op_catT (pe_slice sl_tup (pv 11) po_none (po_some pe_int)) (pe_tup (pa_cons (pv 12) pa_nil))))))))))))))), ?_⟩
    case vial =>
      intro Dn σ G h
      obtain ⟨pl, po, inn, plc, tx, la, jo, pt, x9, x10, p, s, l, rfl, s0, ha, hk, hpl, ll, hnm, l1, l2, g1, g2, e1, e2, h1, h2, h3, n4, h4, h5, h6, nx⟩ := h
      refine ⟨_, rfl, po, _, rfl, .inl (.of h1), _, rfl, inn, _, rfl, .inl (.of h2), _, _, rfl, rfl, _, _, rfl, rfl, _, rfl, ?_⟩
      refine ite2 (fun hp => ?_) (fun hp => ?_)
      · have lp : 0 < p.po.length + p.inn.length := by
          have := of_decide_eq_true hp
          rw [List.length_map, List.length_map] at this
          omega
        have a0 := la0 (ds := ds) (k := k + 7) (many := 4) (by decide)
        have a1 := la1 (ds := ds) (k := k + 7) (many := 4) (by decide)
        refine ⟨_, rfl, _, rfl, _, rfl, _, rfl, .ref a, rfl, _, rfl, _, _, rfl, rfl, .ref pt, rfl, .ref pl, rfl, .ref a, rfl, _, rfl, _, _, rfl, rfl, a, ds, _, 4, rfl, ha, by omega, by decide, ?_⟩
        refine ⟨a, ds, _, .ref pt, p, pl, s, l, _, rfl, ha, by omega, ⟨pt, po, inn, plc, la, jo, rfl, .of (by rw [hnm]; exact h6), h1, h2, h3, ⟨[], h4, by rw [e1]; exact .nil⟩, ⟨[], h5, by rw [e2]; exact .nil⟩⟩, l1, l2, g1, g2, ?_, hpl, ll, a0, by omega, fun G2 q ls sm n hL hV => ?_⟩
        · intro z
          have := own_len (ps := p.po) (inn := p.inn)
          rw [z] at this
          have e : ([] : List Str).length = 0 := rfl
          omega
        refine ⟨by show 0 ≤ sizeLine; decide, fun jo' njo => ⟨by show 6 ≤ sizeLine; decide, fun pt' npt => ?_⟩⟩
        refine nx _ pt' q jo' ls (sm.trans ((same_upd njo).trans (same_upd npt))) upd_same (same_none s0 n) (fun H'' sg => hL H'' fun c o nc hc => sg c o (same_none s0 nc) (((same_upd njo).trans (same_upd npt)) _ _ hc)) hV
      · exact nx G pt la jo [] (Same.refl _) h6 n4 (fun H'' sg => ⟨[], sg _ _ n4 h4, .nil⟩) ⟨(fun _ z => by cases z), by decide, 0, by decide, rfl⟩
    refine ⟨.ref a, rfl, _, rfl, a, ds, k, rfl, ha, hk, fun H1 pl s l hs hl sm1 npl hpl => ?_⟩
    have a0 := la0 (ds := ds) (k := k + 1) (many := 4) (by decide)
    have a1 := la1 (ds := ds) (k := k + 1) (many := 4) (by decide)
    obtain ⟨aa, ea⟩ : ∃ n : Nat, la ds (k + 1) 4 = (n : Int) := ⟨_, (Int.toNat_of_nonneg a0).symm⟩
    refine ⟨_, rfl, .ref a, rfl, _, rfl, _, _, rfl, rfl, a, ds, _, 4, rfl, ha.same sm1, by omega, by decide, _, rfl, pl, _, rfl, .of hpl, fun po npo => ?_⟩
    rw [ea, cut_to rfl, ← List.map_take]
    rw [ea] at a0 a1
    have a2 := la0 (ds := ds) (k := k + 2) (many := 4) (by decide)
    have a3 := la1 (ds := ds) (k := k + 2) (many := 4) (by decide)
    obtain ⟨bb, eb⟩ : ∃ n : Nat, la ds (k + 2) 4 = (n : Int) := ⟨_, (Int.toNat_of_nonneg a2).symm⟩
    have s2 := same_upd npo (o := .lst (((pool s l).take aa).map V.str))
    have hpo : SL (upd H1 po (.lst (((pool s l).take aa).map V.str))) po ((pool s l).take aa) := upd_same
    have smB := sm1.trans s2
    have hpl2 := s2 _ _ hpl
    have npo' := same_none sm1 npo
    generalize upd H1 po _ = H2 at s2 hpo smB hpl2
    refine ⟨_, rfl, _, rfl, .ref a, rfl, _, rfl, _, _, rfl, rfl, a, ds, _, 4, rfl, ha.same smB, by omega, by decide, _, _, rfl, rfl, _, rfl, pl, _, rfl, .of hpl2, fun inn ninn => ?_⟩
    rw [eb] at a2 a3
    have ecut : cutV ((pool s l).map V.str) (some 4) (some (4 + (bb : Int))) = (((pool s l).drop 4).take bb).map V.str :=
      (cut_mid (L := 4) (M := bb) rfl (by omega) (by rw [List.length_map, pool_len]; omega)).trans (by rw [List.map_take, List.map_drop])
    rw [eb, ecut]
    have s3 := same_upd ninn (o := .lst ((((pool s l).drop 4).take bb).map V.str))
    have hinn : SL (upd H2 inn (.lst ((((pool s l).drop 4).take bb).map V.str))) inn (((pool s l).drop 4).take bb) := upd_same
    have smC := smB.trans s3
    have hpl3 := s3 _ _ hpl2
    have hpo3 : SL (upd H2 inn (.lst ((((pool s l).drop 4).take bb).map V.str))) po _ := s3 _ _ hpo
    have ninn' := same_none smB ninn
    generalize upd H2 inn _ = H3 at s3 hinn smC hpl3 hpo3
    refine ⟨by show 0 ≤ sizeLine; decide, fun plc nplc => ?_⟩
    have s4 := same_upd nplc (o := .lst [])
    have nplc' := same_none smC nplc
    refine ⟨_, rfl, po, _, rfl, .inl (.of (s4 _ _ hpo3)), fun tx ntx => ?_⟩
    have s5 := s4.trans (same_upd ntx (o := .lst (((pool s l).take aa).map V.str)))
    have smD := smC.trans s5
    have b0 := la0 (ds := ds) (k := k + 3) (many := 4) (by decide)
    have b1 := la1 (ds := ds) (k := k + 3) (many := 4) (by decide)
    refine ⟨.ref a, rfl, _, rfl, _, _, rfl, rfl, a, ds, _, 4, rfl, ha.same smD, by omega, by decide, _, rfl, bk, _, rfl, .inl (.of (smD _ _ hbk)), _, _, rfl, rfl, .inr ⟨_, rfl, ?_⟩⟩
    obtain ⟨f, ef, f0, f1, f2⟩ := some01 xs.length 0
    rw [ef]
    obtain ⟨n, en, ln, hn⟩ := mul01 b0 (by omega) f0 f1
    refine ⟨_, _, rfl, rfl, .inl ⟨by omega, by omega⟩, _, rfl, by rw [en]; omega, by rw [en]; omega, ?_⟩
    rw [en, Int.toNat_natCast]
    have ntx' := same_none (smC.trans s4) ntx
    have hpl5 := s5 _ _ hpl3
    have hpo5 := s5 _ _ hpo3
    have hinn5 := s5 _ _ hinn
    have lxs := hA.len
    have hplc5 : upd (upd H3 plc (.lst [])) tx (.lst (((pool s l).take aa).map V.str)) plc = some (.lst []) := (same_upd ntx) _ _ upd_same
    have htx5 : upd (upd H3 plc (.lst [])) tx (.lst (((pool s l).take aa).map V.str)) tx = some (.lst (((pool s l).take aa).map V.str)) := upd_same
    generalize upd (upd H3 plc _) tx _ = H5 at s5 smD hpl5 hpo5 hinn5 hplc5 htx5
    refine for_it (walk_range (lo := 0) (n := n)) (fun i σ G => Same H G ∧ G pl = some (.lst ((pool s l).map V.str)) ∧ SL G po ((pool s l).take aa) ∧ SL G inn (((pool s l).drop 4).take bb) ∧ ∃ (v9 v10 : Option V) (tx : Addr) (ys : List V) (pk : List (Str × Prt)), σ = [some (.ref a), some (.int k), some (.str nm), some (.ref bk), some (.ref pl), some (.ref po), some (.ref inn), some (.ref plc), some (.ref tx), v9, v10, none, none, none, none, none, none, none] ∧ H tx = none ∧ tx ≠ plc ∧ SL G tx (txs ((pool s l).take aa) pk) ∧
        G plc = some (.lst ys) ∧ A2 (NwS H plc (PlV K) G) ys (pk.map fun x => (x.1, x.2.nm)) ∧ (∀ x ∈ pk, x.2 ∈ bef) ∧ pk.length = i ∧ pk.map (·.1) = (List.range i).map fun i => pn s l (9 + i))
      ⟨smD, hpl5, hpo5, hinn5, none, none, tx, [], [], rfl, ntx', (fun z => by rw [z, upd_same] at ntx; cases ntx), by unfold txs; rw [List.flatMap_nil, List.append_nil]; exact htx5, hplc5, .nil, (fun _ z => by cases z), rfl, rfl⟩ (fun _ _ _ _ _ => trivial) (fun i x σ G Gx hi pv y => ?_) (fun σ G pv => ?_)
    · obtain ⟨sm, hpl6, hpo6, hinn6, v9, v10, tx, ys, pk, rfl, ntx, tnp, htx, hplc, hB, hin, hlen, hnm⟩ := pv
      obtain ⟨rfl, rfl⟩ := y
      have hbk6 := sm _ _ hbk
      have px : 0 < xs.length := by have := f2 (hn (by omega)); omega
      have c0 := la0 (ds := ds) (k := k + 4 + (0 + (i : Int))) (many := ((xs.length : Nat) : Int)) (by omega)
      have c1 := la1 (ds := ds) (k := k + 4 + (0 + (i : Int))) (many := ((xs.length : Nat) : Int)) (by omega)
      obtain ⟨c, hc, mc⟩ := at_ex c0 c1
      obtain ⟨kp, mkp, ka, kpo, kinn, kpl, kla, kjo, rfl, hkt, hkpo, _⟩ := hA.mem c mc
      have hkt6 := Same.seqT sm hkt
      have hkpo6 := sm _ _ hkpo
      obtain ⟨lk, gk⟩ := hbp _ mkp
      refine ⟨_, rfl, .ref a, rfl, _, rfl, _, _, rfl, rfl, _, rfl, _, _, rfl, rfl, _, rfl, bk, _, rfl, .inl (.of hbk6), a, ds, _, _, rfl, ha.same sm, by omega, by omega, bk, _, _, _, rfl, rfl, .of hbk6, hc, ?_⟩
      refine ⟨.ref plc, rfl, .inl ⟨rfl, _, .of hplc⟩, _, rfl, _, rfl, _, _, rfl, rfl, pl, _, _, _, rfl, rfl, .of hpl6, pool_at (i := 9 + i) (by omega) (by omega), _, rfl, ka, _, _, _, rfl, rfl, hkt6, rfl, by show 2 ≤ sizeLine; decide, fun t nt => ?_⟩
      have tp : t ≠ plc := fun z => by rw [z, hplc] at nt; cases nt
      have s6 := same_upd nt (o := .tup [.str (pn s l (9 + i)), .str kp.nm])
      refine ⟨plc, _, _, rfl, rfl, s6 _ _ hplc, small' (by have := hB.len; rw [List.length_map] at this; omega), ?_⟩
      have sm7 : Same H (upd (upd Gx t (.tup [.str (pn s l (9 + i)), .str kp.nm])) plc (.lst (ys ++ [.ref t]))) := same_over (sm.trans s6) nplc'
      have hplc7 : upd (upd Gx t (.tup [.str (pn s l (9 + i)), .str kp.nm])) plc (.lst (ys ++ [.ref t])) plc = some (.lst (ys ++ [.ref t])) := upd_same
      have sx7 : SameX plc Gx (upd (upd Gx t (.tup [.str (pn s l (9 + i)), .str kp.nm])) plc (.lst (ys ++ [.ref t]))) := (sx s6).trans SameX.put
      have hB7 : A2 (NwS H plc (PlV K) (upd (upd Gx t (.tup [.str (pn s l (9 + i)), .str kp.nm])) plc (.lst (ys ++ [.ref t])))) (ys ++ [.ref t]) ((pk ++ [(pn s l (9 + i), kp)]).map fun x => (x.1, x.2.nm)) := by
        rw [List.map_append]
        exact A2.snoc (fun G' sg => ⟨t, rfl, .of (sg _ _ (same_none sm nt) tp (by rw [upd_ne tp]; exact upd_same))⟩) (NwS.all sx7 hB)
      have ne : ∀ {b : Addr} {o : HO}, Gx b = some o → H3 b = some o → b ≠ plc := fun _ h z => by rw [z, nplc] at h; cases h
      have hpl7 := sx7 _ _ (fun z => by rw [z, nplc] at hpl3; cases hpl3) hpl6
      have hpo7 := sx7 _ _ (fun z => by rw [z] at hpo3; rw [show H3 plc = some _ from hpo3] at nplc; cases nplc) hpo6
      have hinn7 := sx7 _ _ (fun z => by rw [z] at hinn; rw [show H3 plc = some _ from hinn] at nplc; cases nplc) hinn6
      have htx7 := sx7 _ _ tnp htx
      clear hpl6 hpo6 hinn6 htx
      generalize upd (upd Gx t _) plc _ = G7 at sm7 hplc7 sx7 hB7 hpl7 hpo7 hinn7 htx7
      have hkt7 := Same.seqT sm7 hkt
      have hkpo7 := sm7 _ _ hkpo
      refine ⟨_, rfl, _, rfl, ka, _, _, _, rfl, rfl, hkt7, rfl, kpo, rfl, ⟨_, .of hkpo7⟩, fun D nD => ?_⟩
      refine lc_rel (xs := kp.po.map V.str) (fun j y => ∀ q, kp.po[j]? = some q → y = .str (pn s l (9 + i) ++ ("." : Str) ++ q)) nD (.of hkpo7) (small' (by rw [List.length_map]; omega)) (fun j x G8 Q' hx sm8 hq => ?_) (fun G8 zs sm8 hD hn hr => ?_)
      · rw [List.getElem?_map] at hx
        cases ej : kp.po[j]? with
        | none => rw [ej] at hx; cases hx
        | some qn =>
          rw [ej] at hx
          obtain rfl := Option.some.inj hx
          have g1 := (pn_gs (s := s) hl (show 9 + i < 52 by omega)).1
          have g2 := (gk qn (mem_at ej)).1
          have g3 : (pn s l (9 + i) ++ ("." : Str)).length ≤ 13 := by rw [Str.length_append]; show _ + 1 ≤ 13; omega
          refine ⟨_, rfl, _, rfl, _, _, rfl, rfl, pl, _, _, _, rfl, rfl, .of (sm8 _ _ hpl7), pool_at (i := 9 + i) (by omega) (by omega), _, _, rfl, rfl, small (by show _ + 1 ≤ 60000; omega), _, rfl, _, _, rfl, rfl, small (by omega), hq _ fun q hq => ?_⟩
          rw [ej] at hq
          obtain rfl := Option.some.inj hq
          rfl
      · have ez : zs = (kp.po.map fun q => pn s l (9 + i) ++ ("." : Str) ++ q).map V.str := by
          refine List.ext_getElem? fun j => ?_
          rw [List.length_map] at hn
          rw [List.map_map, List.getElem?_map]
          rcases Nat.lt_or_ge j kp.po.length with hj | hj
          · obtain ⟨y, h⟩ : ∃ y, zs[j]? = some y := ⟨zs[j]'(by omega), by simp [show j < zs.length by omega]⟩
            have e : kp.po[j]? = some kp.po[j] := by simp [hj]
            rw [h, e, hr j y h _ e]; rfl
          · rw [List.getElem?_eq_none (by omega), List.getElem?_eq_none hj]; rfl
        subst ez
        refine ⟨tx, D, _, _, rfl, rfl, sm8 _ _ htx7, hD, ?_, fun z nz => ?_⟩
        · have h1 := txs_len (po := (pool s l).take aa) fun x hx => (hbp _ (hin x hx)).1
          rw [List.length_take, pool_len] at h1
          rw [List.length_map, List.length_map, List.length_map]
          exact small (by omega)
        · have s9 := sm8.trans (same_upd nz (o := .lst ((txs ((pool s l).take aa) pk).map V.str ++ (kp.po.map fun q => pn s l (9 + i) ++ ("." : Str) ++ q).map V.str)))
          refine ⟨sm7.trans s9, s9 _ _ hpl7, s9 _ _ hpo7, s9 _ _ hinn7, _, _, z, _, pk ++ [(pn s l (9 + i), kp)], rfl, same_none (sm7.trans sm8) nz, (fun e => by rw [e, sm8 _ _ hplc7] at nz; cases nz), ?_, s9 _ _ hplc7, NwS.all (sx s9) hB7, fun x hx => ?_, by rw [List.length_append, hlen]; rfl, by rw [List.map_append, hnm, List.range_succ, List.map_append]; rfl⟩
          · show upd G8 z _ z = _
            rw [upd_same, ← List.map_append]
            congr 3
            unfold txs
            rw [List.flatMap_append, ← List.append_assoc]
            congr 1
            show _ = _ ++ []
            rw [List.append_nil]
          · rcases List.mem_append.mp hx with hx | hx
            · exact hin x hx
            · obtain rfl := List.mem_singleton.mp hx
              exact mkp
    · obtain ⟨sm, hpl6, hpo6, hinn6, v9, v10, tx, ys, pk, rfl, ntx, tnp, htx, hplc, hB, hin, hlen, hnm⟩ := pv
      have hplE : PlL K G plc (pk.map fun x => (x.1, x.2.nm)) := ⟨ys, hplc, hB.mono fun _ _ z => z.at⟩
      refine ⟨_, rfl, _, rfl, _, rfl, _, rfl, by show 0 ≤ sizeLine; decide, fun lla nla => ⟨by show 0 ≤ sizeLine; decide, fun jj njj => ⟨by show 6 ≤ sizeLine; decide, fun pt npt => ?_⟩⟩⟩
      have t1 := same_upd nla (o := .lst [])
      have t2 := same_upd njj (o := .lst [])
      have t3 := same_upd npt (o := .tup [.str nm, .ref po, .ref inn, .ref plc, .ref lla, .ref jj])
      have t12 := t1.trans t2
      have t123 := t12.trans t3
      refine ⟨pl, po, inn, plc, tx, lla, jj, pt, v9, v10, ⟨nm, (pool s l).take aa, ((pool s l).drop 4).take bb, pk.map fun x => (x.1, x.2.nm), [], []⟩, s, l, rfl, sm.trans t123, ha.same (sm.trans t123), hk, t123 _ _ hpl6, hl, rfl, by show (List.take _ _).length ≤ 3; rw [List.length_take]; omega, by show (List.take _ _).length ≤ 3; rw [List.length_take]; omega, fun x hx => pool_gs hl x (List.mem_of_mem_take hx), fun x hx => pool_gs hl x (List.mem_of_mem_drop (List.mem_of_mem_take hx)), rfl, rfl,
        t123 _ _ hpo6, t123 _ _ hinn6, hplE.same t123, same_none sm nla, t3 _ _ (t2 _ _ upd_same), t3 _ _ upd_same, upd_same, fun G' pt' la' jo' ls sm' hpt' nla' hL hV => ?_⟩
      have smG : Same G G' := t123.trans sm'
      have smH : Same H G' := sm.trans smG
      have htx' : SL G' tx (txs ((pool s l).take aa) pk) := smG _ _ htx
      have hpo' : SL G' po ((pool s l).take aa) := smG _ _ hpo6
      have hinn' : SL G' inn (((pool s l).drop 4).take bb) := smG _ _ hinn6
      have hplc' := smG _ _ hplc
      have ltx : (txs ((pool s l).take aa) pk).length ≤ 12 := by
        have h1 := txs_len (po := (pool s l).take aa) fun x hx => (hbp _ (hin x hx)).1
        rw [List.length_take, pool_len] at h1
        omega
      have hB' : A2 (NwS H plc (PlV K) G') ys (pk.map fun x => (x.1, x.2.nm)) := NwS.all (sx smG) hB
      generalize eTX : txs ((pool s l).take aa) pk = TX at htx' ltx
      refine ⟨by show 0 ≤ sizeLine; decide, fun jl njl => ?_⟩
      have u1 := same_upd njl (o := .lst [])
      have d0 := la0 (ds := ds) (k := k + 12) (many := 4) (by decide)
      have d1 := la1 (ds := ds) (k := k + 12) (many := 4) (by decide)
      refine ⟨.ref a, rfl, _, rfl, _, _, rfl, rfl, a, ds, _, 4, rfl, ha.same (smH.trans u1), by omega, by decide, _, rfl, tx, _, rfl, .inl (.of (u1 _ _ htx')), _, _, rfl, rfl, .inr ⟨_, rfl, ?_⟩⟩
      obtain ⟨g, eg, e0, e1, e2⟩ := some01 (TX.map V.str).length 1
      rw [eg]
      obtain ⟨m, em, lm, hm⟩ := mul01 d0 (by omega) e0 e1
      rw [List.length_map] at e2
      refine ⟨_, _, rfl, rfl, .inl ⟨by omega, by omega⟩, _, rfl, by rw [em]; omega, by rw [em]; omega, ?_⟩
      rw [em, Int.toNat_natCast]
      refine for_it (walk_range (lo := 0) (n := m)) (fun i σ G2 => Same G' G2 ∧ ∃ (v9 v13 v14 v15 v16 : Option V) (zs : List V) (js : List (List Str)), σ = [some (.ref a), some (.int k), some (.str nm), some (.ref bk), some (.ref pl), some (.ref po), some (.ref inn), some (.ref plc), some (.ref tx), v9, v10, some (.ref pt'), some (.ref jl), v13, v14, v15, v16, none] ∧ G2 jl = some (.lst zs) ∧ A2 (NwS H jl JoV G2) zs js ∧ (∀ j ∈ js, jok TX j) ∧ js.length ≤ i)
        ⟨u1, v9, none, none, none, none, [], [], rfl, upd_same, .nil, (fun _ z => by cases z), Nat.le_refl _⟩ (fun _ _ _ _ _ => trivial) (fun i x σ G2 Gx hi pv y => ?_) (fun σ G2 pv => ?_)
      · obtain ⟨sm2, v9, v13, v14, v15, v16, zs, js, rfl, hjl, hJ, hjok, ljs⟩ := pv
        obtain ⟨rfl, rfl⟩ := y
        have lT : 1 < TX.length := by have := e2 (hm (by omega)); omega
        have c0 := la0 (ds := ds) (k := k + 13 + (0 + (i : Int))) (many := 60000) (by decide)
        have c1 := la1 (ds := ds) (k := k + 13 + (0 + (i : Int))) (many := 60000) (by decide)
        refine ⟨.ref a, rfl, _, rfl, _, _, rfl, rfl, _, rfl, _, _, rfl, rfl, a, ds, _, 60000, rfl, ha.same (smH.trans sm2), by omega, by decide, ?_⟩
        dsimp only
        generalize la ds (k + 13 + (0 + (i : Int))) 60000 = cell at c0 c1
        refine ⟨by show 0 ≤ sizeLine; decide, fun jt njt => ⟨_, rfl, .inl ⟨_, rfl, _, _, rfl, rfl, (by show (0 : Int) < _; decide), _, _, rfl, rfl, ?_⟩⟩⟩
        obtain ⟨z, ez⟩ : ∃ n : Nat, 2 + cell % 3 = (n : Int) := ⟨(2 + cell % 3).toNat, by omega⟩
        refine ⟨_, rfl, by omega, by omega, ?_⟩
        rw [ez, Int.toNat_natCast]
        have w1 := same_upd njt (o := .lst [])
        refine for_it (walk_range (lo := 0) (n := z)) (fun j σ G3 => Same Gx G3 ∧ ∃ (v15 v16 : Option V) (jj : List Str), σ = [some (.ref a), some (.int k), some (.str nm), some (.ref bk), some (.ref pl), some (.ref po), some (.ref inn), some (.ref plc), some (.ref tx), some (.int (0 + (i : Int))), v10, some (.ref pt'), some (.ref jl), some (.int cell), some (.ref jt), v15, v16, none] ∧ SL G3 jt jj ∧ jj.Nodup ∧ (∀ t ∈ jj, t ∈ TX) ∧ jj.length ≤ j)
          ⟨w1, v15, v16, [], rfl, upd_same, .nil, (fun _ z => by cases z), Nat.le_refl _⟩ (fun _ _ _ _ _ => trivial) (fun j x σ G3 Gy hj pv y => ?_) (fun σ G3 pv => ?_)
        · obtain ⟨sm3, v15, v16, jj, rfl, hjt, hnd, hmem, ljj⟩ := pv
          obtain ⟨rfl, rfl⟩ := y
          have htx2 := sm3 _ _ (sm2 _ _ htx')
          obtain ⟨c, hc, mc⟩ := at_ex (xs := TX.map V.str) (i := cell / (3 + 2 * (0 + (j : Int))) % (((TX.map V.str).length : Nat) : Int)) (Int.emod_nonneg _ (by rw [List.length_map]; omega)) (Int.emod_lt_of_pos _ (by rw [List.length_map]; omega))
          obtain ⟨qn, hqn, rfl⟩ := List.mem_map.mp mc
          refine ⟨_, rfl, _, rfl, _, rfl, _, _, rfl, rfl, .inl ⟨by decide, by omega⟩, _, _, rfl, rfl, _, _, rfl, rfl, ⟨by omega, by omega⟩, .inl ⟨_, rfl, _, rfl, tx, _, rfl, .inl (.of htx2), _, _, rfl, rfl, by rw [List.length_map]; omega, tx, _, _, _, rfl, rfl, .of htx2, hc, ?_⟩⟩
          refine ⟨_, rfl, .ref jt, rfl, jt, _, rfl, .inl (.of hjt), rfl, flat_strs jj, _, rfl, ?_⟩
          rw [in_strs]
          refine ite2 (fun h => ?_) (fun h => ?_)
          · have hni : qn ∉ jj := fun z => by rw [decide_eq_true z] at h; cases h
            refine ⟨.ref jt, rfl, .inl ⟨rfl, _, .of hjt⟩, _, rfl, jt, _, _, rfl, rfl, hjt, small' (by rw [List.length_map]; omega), ?_⟩
            refine ⟨same_over sm3 njt, _, _, jj ++ [qn], rfl, ?_, ?_, fun t ht => ?_, by rw [List.length_append]; exact Nat.succ_le_succ ljj⟩
            · show upd Gy jt _ jt = _
              rw [upd_same, List.map_append]; rfl
            · exact List.nodup_append.mpr ⟨hnd, List.nodup_cons.mpr ⟨List.not_mem_nil, List.nodup_nil⟩, fun x hx y hy e => by simp at hy; subst hy; subst e; exact hni hx⟩
            · rcases List.mem_append.mp ht with ht | ht
              · exact hmem t ht
              · obtain rfl := List.mem_singleton.mp ht
                exact hqn
          · exact ⟨sm3, _, _, jj, rfl, hjt, hnd, hmem, by omega⟩
        · obtain ⟨sm3, v15, v16, jj, rfl, hjt, hnd, hmem, ljj⟩ := pv
          have hjl3 := sm3 _ _ hjl
          have hJ3 : A2 (NwS H jl JoV G3) zs js := NwS.all (sx sm3) hJ
          refine ⟨_, rfl, jt, _, rfl, .inl (.of hjt), _, _, rfl, rfl, _, rfl, ite2 (fun h => ?_) (fun h => ?_)⟩
          · have l2 : 2 ≤ jj.length := by
              have := of_decide_eq_true h
              rw [List.length_map] at this
              omega
            have jn : jt ≠ jl := fun z => by rw [z, hjl] at njt; cases njt
            refine ⟨.ref jl, rfl, .inl ⟨rfl, _, .of hjl3⟩, _, rfl, jl, _, _, rfl, rfl, hjl3, small' (by have := hJ.len; omega), ?_⟩
            refine ⟨same_over (sm2.trans sm3) njl, _, _, _, _, _, zs ++ [.ref jt], js ++ [jj], rfl, upd_same, A2.snoc (fun G4 sg => ⟨jt, rfl, sg _ _ (same_none (smH.trans sm2) njt) jn (by rw [upd_ne jn]; exact hjt)⟩) (NwS.all SameX.put hJ3), fun j hj => ?_, by rw [List.length_append]; exact Nat.succ_le_succ ljs⟩
            rcases List.mem_append.mp hj with hj | hj
            · exact hjok j hj
            · obtain rfl := List.mem_singleton.mp hj
              exact ⟨hnd, l2, by omega, hmem⟩
          · exact ⟨sm2.trans sm3, _, _, _, _, _, zs, js, rfl, hjl3, hJ3, hjok, by omega⟩
      · obtain ⟨sm2, v9, v13, v14, v15, v16, zs, js, rfl, hjl, hJ, hjok, ljs⟩ := pv
        have eq5 : cutV [V.str nm, V.ref po, V.ref inn, V.ref plc, V.ref la', V.ref jo'] none (some 5) = [V.str nm, V.ref po, V.ref inn, V.ref plc, V.ref la'] := cut_to (L := 5) rfl
        refine ⟨_, rfl, _, rfl, pt', _, rfl,   .of (sm2 _ _ hpt'), by show ¬ (HT.sIx 6 0 none = 0 ∧ HT.sIx 6 6 (some 5) = 6); decide, fun p1 np1 => ?_⟩
        rw [eq5]
        refine ⟨_, rfl, by show 1 ≤ sizeLine; decide, fun p2 np2 => ?_⟩
        refine ⟨p1, p2, _, _, rfl, rfl, .of ((same_upd np2) _ _ upd_same), .of upd_same, (fun z => by cases z), by show 6 ≤ sizeLine; decide, (fun z => by cases z), fun _ p3 np3 => ?_⟩
        have s1 := (same_upd np1 (o := .tup [V.str nm, V.ref po, V.ref inn, V.ref plc, V.ref la'])).trans ((same_upd np2 (o := .tup [.ref jl])).trans (same_upd np3 (o := .tup [V.str nm, V.ref po, V.ref inn, V.ref plc, V.ref la', V.ref jl])))
        have n3 : H p3 = none := same_none ((smH.trans sm2).trans ((same_upd np1 (o := .tup [V.str nm, V.ref po, V.ref inn, V.ref plc, V.ref la'])).trans (same_upd np2 (o := .tup [.ref jl])))) np3
        refine q _ (.ref p3) s l aa bb pk ⟨nm, (pool s l).take aa, ((pool s l).drop 4).take bb, pk.map fun x => (x.1, x.2.nm), ls, js⟩ ((smH.trans sm2).trans s1) (fun H'' sg => ?_) ⟨hs, hl, by omega, by omega, rfl, rfl, rfl, hin, by rw [hnm, hlen], by omega, hV, by show js.length ≤ 3; omega, by rw [eTX]; exact hjok⟩ rfl
        have s1' := sm2.trans s1
        refine ⟨p3, po, inn, plc, la', jl, rfl, .of (sg _ _ n3 upd_same), sg _ _ npo' (s1' _ _ hpo'), sg _ _ ninn' (s1' _ _ hinn'), ⟨ys, sg _ _ nplc' (s1' _ _ hplc'), hB'.mono fun _ _ z => z H'' fun c o n _ h => sg c o n (s1' _ _ h)⟩, hL H'' fun c o n h => sg c o n (s1' _ _ h), ⟨zs, sg _ _ (same_none smH njl) (s1 _ _ hjl), hJ.mono fun _ _ z => z H'' fun c o n _ h => sg c o n (s1 _ _ h)⟩⟩
end
end K08
-- J8
namespace K08
open PySem PySem.Spec PyProof.Rows L2
section
variable {P : Program} {w : World} {K : PySem.W.Frag} {mg : Str → Option Value} {base : Heap}
/-! ### a book -/
theorem let12 : ∀ j : Fin 12, atI ("abcdefghijkl" : Str).cps.toList ((j.val : Nat) : Int) = some (97 + j.val) := by decide +kernel
/-- the name of the i-th part -/
def bn (s n i : Nat) : Str := (⟨#[97 + (i + s) % 12]⟩ : Str) ++ Txt.mul ("p" : Str) (n : Nat)
/-- a drawn book -/
structure VB (s n : Nat) (book : List Prt) : Prop where
  many : book.length ≤ 11
  hn : n < 9
  hs : s < 12
  nm : ∀ i p, book[i]? = some p → p.nm = bn s n i
  vp : ∀ i p, book[i]? = some p → ∃ s l a b pk, VP (book.take i) s l a b pk p
theorem vp_po {bef : List Prt} {s l a b : Nat} {pk : List (Str × Prt)} {p : Prt} (h : VP bef s l a b pk p) : p.po.length ≤ 3 ∧ ∀ y ∈ p.po, GS 12 y := by
  have := h.ha
  refine ⟨by rw [h.po, List.length_take]; omega, fun y hy => ?_⟩
  rw [h.po] at hy
  exact pool_gs h.hl y (List.mem_of_mem_take hy)
theorem at_snoc {α : Type} {xs : List α} {x y : α} {i : Nat} (h : (xs ++ [x])[i]? = some y) : xs[i]? = some y ∧ i < xs.length ∨ i = xs.length ∧ y = x := by
  rcases Nat.lt_trichotomy i xs.length with z | z | z
  · rw [List.getElem?_append_left z] at h
    exact .inl ⟨h, z⟩
  · subst z
    rw [List.getElem?_append_right (Nat.le_refl _), Nat.sub_self] at h
    exact .inr ⟨rfl, (Option.some.inj h).symm⟩
  · rw [List.getElem?_eq_none (by simp; omega)] at h
    cases h
def sp_law_book (K : PySem.W.Frag) : Sp := fun vs H Q _ => ∃ (a : Addr) (ds : List Int) (first most : Int), vs = [.ref a, .int first, .int most] ∧ IL H a ds ∧ 0 ≤ first ∧ 0 ≤ most ∧ most ≤ 11 ∧
  ∀ (H' : Hp) (bk : Addr) (book : List Prt) (s n : Nat), Same H H' → H bk = none → (∀ H'', (∀ c o, H c = none → H' c = some o → H'' c = some o) → BK K H'' bk book) → VB s n book → (book.length : Int) ≤ most → Q (.ref bk) H'
theorem ok_law_book (T : Txt K mg) : FnOk P w K mg base CX0 4 T.law_book.a T.law_book.fd ["draws", "first", "most"] (sp_law_book K) := by
  refine T.law_book.F.ok sc_law_book (fun vs H Q E h => ?_) (fun cdv A outer s H vs Q E hr h => ?_)
  · obtain ⟨a, ds, first, most, rfl, _⟩ := h
    rfl
  · obtain ⟨a, ds, first, most, rfl, ha, hf, hm, hm', q⟩ := h
    refine ⟨_, (pss_cons (ps_set (i := 3) sc_law_book.nd rfl (.inl rfl) (pe_lst pa_nil))
      (pss_cons (ps_for PassesOwn.never rfl (pi_range1 (by rfl) T.m_range (pa_cons (pe_call (ok_law_at T) (hr.mono (by decide)) (by rfl) T.law_at.g T.law_at.F.kp T.law_at.b .nil pass0 (pa_cons (pv 0) (pa_cons (pv 1) (pa_cons (pe_op op_add (pv 2) pe_int) pa_nil)))) pa_nil)) (pg_name (i := 4) sc_law_book.nd rfl (.inl rfl))
        (pss_cons (ps_set (i := 5) sc_law_book.nd rfl (.inl rfl) (pe_op op_add_str (pe_ix ix_str pe_str (pe_op op_mod (pe_callTy call_int1 (by rfl) T.m_int (by decide +kernel) (pa_cons (pe_op op_add (pv 4) (pe_call (ok_law_at T) (hr.mono (by decide)) (by rfl) T.law_at.g T.law_at.F.kp T.law_at.b .nil pass0 (pa_cons (pv 0) (pa_cons (pe_op op_add (pv 1) pe_int) (pa_cons pe_int pa_nil))))) pa_nil)) pe_int) (fun _ _ => rfl)) (pe_op op_mulS pe_str (pe_call (ok_law_at T) (hr.mono (by decide)) (by rfl) T.law_at.g T.law_at.F.kp T.law_at.b .nil pass0 (pa_cons (pv 0) (pa_cons (pe_op op_add (pv 1) pe_int) (pa_cons pe_int pa_nil)))))))
        (pss_one (ps_expr (pe_bm PySem.F.plainAttrs_list PySem.F.slot_list_append PySem.F.type_list_append mt_append (pv 3) (pa_cons (pe_call (ok_law_part T) (hr.mono (by decide)) (by rfl) T.law_part.g T.law_part.F.kp T.law_part.b .nil pass0 (pa_cons (pv 0) (pa_cons (pe_op op_add (pe_op op_add (pv 1) pe_int) (pe_op op_mul pe_int (pv 4))) (pa_cons (pv 5) (pa_cons (pv 3) pa_nil))))) pa_nil))))))
      (pss_one (ps_ret (pv 3))))), ?_⟩
    refine ⟨by show 0 ≤ sizeLine; decide, fun bk nbk => ?_⟩
    have t0 := same_upd nbk (o := .lst [])
    have d0 := la0 (ds := ds) (k := first) (many := most + 1) (by omega)
    have d1 := la1 (ds := ds) (k := first) (many := most + 1) (by omega)
    refine ⟨.ref a, rfl, _, rfl, _, rfl, _, _, rfl, rfl, a, ds, _, _, rfl, ha.same t0, by omega, by omega, _, rfl, by omega, by omega, ?_⟩
    obtain ⟨n, en⟩ : ∃ n : Nat, la ds first (most + 1) = (n : Int) := ⟨_, (Int.toNat_of_nonneg d0).symm⟩
    rw [en, Int.toNat_natCast]
    have e0 := la0 (ds := ds) (k := first + 1) (many := 12) (by decide)
    have e1 := la1 (ds := ds) (k := first + 1) (many := 12) (by decide)
    have f0 := la0 (ds := ds) (k := first + 1) (many := 9) (by decide)
    have f1 := la1 (ds := ds) (k := first + 1) (many := 9) (by decide)
    obtain ⟨bs, ebs⟩ : ∃ n : Nat, la ds (first + 1) 12 = (n : Int) := ⟨_, (Int.toNat_of_nonneg e0).symm⟩
    obtain ⟨bp, ebp⟩ : ∃ n : Nat, la ds (first + 1) 9 = (n : Int) := ⟨_, (Int.toNat_of_nonneg f0).symm⟩
    refine for_it (walk_range (lo := 0) (n := n)) (fun i σ G => Same H G ∧ ∃ (v4 v5 : Option V) (xs : List V) (book : List Prt), σ = [some (.ref a), some (.int first), some (.int most), some (.ref bk), v4, v5] ∧ G bk = some (.lst xs) ∧ A2 (NwS H bk (PT K) G) xs book ∧ book.length = i ∧ VB bs bp book)
      ⟨t0, none, none, [], [], rfl, upd_same, .nil, rfl, ⟨by decide, by omega, by omega, (fun i p h => by simp at h), (fun i p h => by simp at h)⟩⟩ (fun _ _ _ _ _ => trivial) (fun i x σ G Gx hi pv y => ?_) (fun σ G pv => ?_)
    · obtain ⟨sm, v4, v5, xs, book, rfl, hbk, hA, hlen, hV⟩ := pv
      obtain ⟨rfl, rfl⟩ := y
      refine ⟨_, rfl, .ref a, rfl, _, rfl, _, _, rfl, rfl, a, ds, _, 12, rfl, ha.same sm, by omega, by decide, _, _, rfl, rfl, .inl ⟨_, rfl, _, _, rfl, rfl, (by show (0 : Int) < _; decide), ?_⟩⟩
      have at1 := let12 ⟨(i + bs) % 12, Nat.mod_lt _ (by decide)⟩
      dsimp only at at1
      have ec : (0 + (i : Int) + la ds (first + 1) 12) % 12 = (((i + bs) % 12 : Nat) : Int) := by rw [ebs]; omega
      rw [← ec] at at1
      refine ⟨_, _, _, rfl, rfl, (by decide +kernel), at1, .ref a, rfl, _, rfl, _, _, rfl, rfl, a, ds, _, 9, rfl, ha.same sm, by omega, by decide, ?_⟩
      rw [ebp]
      have gp : GS 9 (Txt.mul ("p" : Str) ((bp : Nat) : Int)) := by
        have : ∀ n : Fin 9, GS 9 (Txt.mul ("p" : Str) ((n.val : Nat) : Int)) := by decide +kernel
        exact this ⟨bp, by omega⟩
      refine ⟨_, _, rfl, rfl, (by decide +kernel), by omega, by omega, _, _, rfl, rfl, small (by have := gp.1; show 1 + _ ≤ 60000; omega), ?_⟩
      have hbp : ∀ x ∈ book, x.po.length ≤ 3 ∧ ∀ y ∈ x.po, GS 12 y := fun x hx => by
        obtain ⟨j, hj, e⟩ := List.getElem_of_mem hx
        obtain ⟨s, l, a, b, pk, h⟩ := hV.vp j x (by rw [← e]; simp [hj])
        exact vp_po h
      refine ⟨.ref bk, rfl, .inl ⟨rfl, _, .of hbk⟩, .ref a, rfl, _, rfl, _, _, rfl, rfl, _, rfl, _, _, rfl, rfl, .inl ⟨by decide, by omega⟩, _, _, rfl, rfl, _, rfl, _, rfl, a, ds, _, _, bk, book, rfl, ha.same sm, by omega, ⟨xs, hbk, hA.mono fun _ _ z => z.at⟩, by omega, hbp, fun G2 v s l aa b pk p sm2 hN hP hnm => ?_⟩
      have hbk2 := sm2 _ _ hbk
      refine ⟨bk, _, _, rfl, rfl, hbk2, small' (by have := hA.len; omega), ?_⟩
      refine ⟨same_over (sm.trans sm2) nbk, _, _, xs ++ [v], book ++ [p], rfl, upd_same, A2.snoc (fun G4 sg => hN G4 fun c o nc hc => ?_) (NwS.all ((sx sm2).trans SameX.put) hA), by rw [List.length_append, hlen]; rfl, ⟨by rw [List.length_append]; show _ + 1 ≤ 11; omega, hV.hn, hV.hs, fun j p' hj => ?_, fun j p' hj => ?_⟩⟩
      · have nb : c ≠ bk := fun z => by rw [z, hbk] at nc; cases nc
        exact sg _ _ (same_none sm nc) nb (by rw [upd_ne nb]; exact hc)
      · rcases at_snoc hj with ⟨h, _⟩ | ⟨rfl, rfl⟩
        · exact hV.nm j p' h
        · rw [hnm, hlen]; rfl
      · rcases at_snoc hj with ⟨h, lj⟩ | ⟨rfl, rfl⟩
        · obtain ⟨s, l, a, b, pk, h⟩ := hV.vp j p' h
          exact ⟨s, l, a, b, pk, by rw [List.take_append_of_le_length (Nat.le_of_lt lj)]; exact h⟩
        · exact ⟨s, l, aa, b, pk, by rw [List.take_left]; exact hP⟩
    · obtain ⟨sm, v4, v5, xs, book, rfl, hbk, hA, hlen, hV⟩ := pv
      exact ⟨_, rfl, q G bk book bs bp sm nbk (fun H'' sg => ⟨xs, sg _ _ nbk hbk, hA.mono fun _ _ z => z H'' fun c o n _ h => sg c o n h⟩) hV (by omega)⟩
end
end K08
-- P8
namespace K08
open PySem PySem.Spec PyProof.Rows L2
section
variable {P : Program} {w : World} {K : PySem.W.Frag} {mg : Str → Option Value} {base : Heap}
end
section
variable {J J1 : It} {n : Nat} {G : Hp → Prop} {Y : Nat → Hp → V → Hp → Prop} {g g1 : TG} {tt tt1 : TT} {te : TE} {vs vs1 : List Nat} {σ σ2 : L2.St} {H1 H4 : Hp} {D : Addr} {wi1 : TI}
/-- what the second clause wants, on its way to Nx -/
abbrev In2 (J1 : It) (g1 : TG) (tt1 : TT) (te : TE) (vs1 : List Nat) (D : Addr) (Nx : Hp → Prop) (σ2 : L2.St) (H4 : Hp) : Prop :=
  ∃ W1 : Nat → Nat → Hp → Prop, (∃ m, W1 0 m H4) ∧ ∀ j k H, W1 j k H → (J1.stop j H ∧ Nx H) ∨ (J1.go j H ∧ ∃ Nx1 : Hp → Prop, (∀ H', Nx1 H' → ∃ k', k' < k ∧ W1 (j + 1) k' H') ∧ ∀ x H', J1.yld j H x H' → g1 x (wipe σ2 vs1) H' fun σ3 H5 => wipe σ3 vs1 = wipe σ2 vs1 ∧ tt1 σ3 H5 fun b H6 =>
    if b = true then te σ3 H6 fun y H7 => ∃ acc, H7 D = some (.lst acc) ∧ acc.length < sizeLine ∧ Nx1 (upd H7 D (.lst (acc ++ [y]))) else Nx1 H6)
theorem lc2_in {Nx : Hp → Prop} (w : Walk J1 n G Y) (Pv : Nat → Hp → Prop) (h0 : Pv 0 H4) (hG : ∀ j H, Pv j H → G H)
    (hs : ∀ j x H H', j < n → Pv j H → Y j H x H' → g1 x (wipe σ2 vs1) H' fun σ3 H5 => wipe σ3 vs1 = wipe σ2 vs1 ∧ tt1 σ3 H5 fun b H6 =>
      if b = true then te σ3 H6 fun y H7 => ∃ acc, H7 D = some (.lst acc) ∧ acc.length < sizeLine ∧ Pv (j + 1) (upd H7 D (.lst (acc ++ [y]))) else Pv (j + 1) H6) (hd : ∀ H, Pv n H → Nx H) : In2 J1 g1 tt1 te vs1 D Nx σ2 H4 := by
  refine ⟨fun j k H => k + j = n ∧ Pv j H, ⟨n, rfl, h0⟩, fun j k H ⟨e, p⟩ => ?_⟩
  rcases Nat.lt_or_ge j n with lt | ge
  · exact .inr ⟨w.goes j H lt (hG j H p), Pv (j + 1), fun H' p' => ⟨k - 1, by omega, by omega, p'⟩, fun x H' y => hs j x H H' lt p (w.yields j H x H' lt (hG j H p) y)⟩
  · obtain rfl : j = n := by omega
    exact .inl ⟨w.stops H (hG j H p), hd H p⟩
theorem lc2_out {Qd : Hp → Prop} (w : Walk J n G Y) (Pv : Nat → Hp → Prop) (h0 : Pv 0 (upd H1 D (.lst []))) (hG : ∀ j H, Pv j H → G H)
    (hs : ∀ i x H H', i < n → Pv i H → Y i H x H' → g x (wipe σ vs) H' fun σ2 H2 => wipe σ2 vs = wipe σ vs ∧ tt σ2 H2 fun b H3 =>
      if b = true then wi1 σ2 H3 fun J1 H4 => In2 J1 g1 tt1 te vs1 D (Pv (i + 1)) σ2 H4 else Pv (i + 1) H3) (hd : ∀ H, Pv n H → Qd H) :
    ∃ W : Nat → Nat → Hp → Prop, (∃ m, W 0 m (upd H1 D (.lst []))) ∧ ∀ i m H, W i m H → (J.stop i H ∧ Qd H) ∨ (J.go i H ∧ ∃ Nx : Hp → Prop, (∀ H', Nx H' → ∃ m', m' < m ∧ W (i + 1) m' H') ∧ ∀ x H', J.yld i H x H' → g x (wipe σ vs) H' fun σ2 H2 => wipe σ2 vs = wipe σ vs ∧ tt σ2 H2 fun b H3 =>
      if b = true then wi1 σ2 H3 fun J1 H4 => In2 J1 g1 tt1 te vs1 D Nx σ2 H4 else Nx H3) := by
  refine ⟨fun j k H => k + j = n ∧ Pv j H, ⟨n, rfl, h0⟩, fun j k H ⟨e, p⟩ => ?_⟩
  rcases Nat.lt_or_ge j n with lt | ge
  · exact .inr ⟨w.goes j H lt (hG j H p), Pv (j + 1), fun H' p' => ⟨k - 1, by omega, by omega, p'⟩, fun x H' y => hs j x H H' lt p (w.yields j H x H' lt (hG j H p) y)⟩
  · obtain rfl : j = n := by omega
    exact .inl ⟨w.stops H (hG j H p), hd H p⟩
end
section
variable {P : Program} {w : World} {K : PySem.W.Frag} {mg : Str → Option Value} {base : Heap}
/-! ### the program's nodes -/
/-- a dict of parts by their names knows the parts of these places -/
def Kn (K : PySem.W.Frag) (H : Hp) (d : Addr) (pk : List (Str × Prt)) : Prop := ∃ kvs : List (Key × V), H d = some (.dK kvs) ∧ ∀ x ∈ pk, ∃ v, valV kvs (.inr x.2.nm) = some v ∧ PT K H v x.2
theorem Kn.same {K : PySem.W.Frag} {H H' : Hp} {d : Addr} {pk : List (Str × Prt)} (s : Same H H') (h : Kn K H d pk) : Kn K H' d pk := by
  obtain ⟨kvs, h1, h2⟩ := h
  exact ⟨kvs, s _ _ h1, fun x hx => let ⟨v, a, b⟩ := h2 x hx; ⟨v, a, b.same s⟩⟩
/-- bounds of a part and its places -/
structure Bdp (p : Prt) (pk : List (Str × Prt)) : Prop where
  pl : p.pl = pk.map fun x => (x.1, x.2.nm)
  po : p.po.length ≤ 20
  many : pk.length ≤ 20
  gpo : ∀ x ∈ p.po, GS 20 x
  gn : ∀ x ∈ pk, GS 20 x.1
  lk : ∀ x ∈ pk, x.2.po.length ≤ 20
  gk : ∀ x ∈ pk, ∀ y ∈ x.2.po, GS 20 y
theorem str_empty (x : Str) : (Str.empty ++ x : Str) = x := by
  have h : (Str.empty ++ x : Str).cps = x.cps := by rw [Str.cps_append]; show #[] ++ x.cps = x.cps; simp
  cases hx : (Str.empty ++ x : Str); cases x
  rw [hx] at h
  exact congrArg _ h
theorem txs20 : ∀ ks : List (Str × Prt), (∀ x ∈ ks, x.2.po.length ≤ 20) → (ks.flatMap fun x => x.2.po.map fun q => x.1 ++ ("." : Str) ++ q).length ≤ 20 * ks.length := by
  intro ks
  induction ks with
  | nil => exact fun _ => Nat.le_refl _
  | cons k r ih =>
    intro h
    rw [List.flatMap_cons, List.length_append, List.length_map, List.length_cons]
    have := h k List.mem_cons_self
    have := ih fun x hx => h x (List.mem_cons_of_mem _ hx)
    omega
def sp_port_texts (K : PySem.W.Frag) : Sp := fun vs H Q _ => ∃ (v : V) (d : Addr) (p : Prt) (pk : List (Str × Prt)), vs = [v, .ref d] ∧ PT K H v p ∧ Kn K H d pk ∧ Bdp p pk ∧
  ∀ (H' : Hp) (q : Addr), Same H H' → H q = none → SL H' q (txs p.po pk) → Q (.ref q) H'
theorem ok_port_texts (T : Txt K mg) : FnOk P w K mg base CX0 1 T.port_texts.a T.port_texts.fd ["part", "before"] (sp_port_texts K) := by
  refine T.port_texts.F.ok sc_port_texts (fun vs H Q E h => ?_) (fun cdv A outer s H vs Q E hr h => ?_)
  · obtain ⟨v, d, p, pk, rfl, _⟩ := h
    rfl
  · obtain ⟨v, d, p, pk, rfl, ⟨a, po, inn, pl, la, jo, rfl, h0, h1, h2, ⟨ys, hy, hA⟩, _⟩, ⟨kvs, hd, hk⟩, B, q⟩ := h
    refine ⟨_, (pss_cons (ps_asg (pv 0) (pg_tup rfl (pgs_cons (pg_name (i := 2) sc_port_texts.nd rfl (.inl rfl)) (pgs_cons (pg_name (i := 3) sc_port_texts.nd rfl (.inl rfl)) (pgs_cons (pg_name (i := 2) sc_port_texts.nd rfl (.inl rfl)) (pgs_cons (pg_name (i := 4) sc_port_texts.nd rfl (.inl rfl)) (pgs_cons (pg_name (i := 2) sc_port_texts.nd rfl (.inl rfl)) (pgs_cons (pg_name (i := 2) sc_port_texts.nd rfl (.inl rfl)) pgs_nil))))))))
      (pss_one (ps_ret (pe_op op_cat (pv 3) (pe_lc2 (wi1 := iList K _) (own := [("name", 5), ("there", 6), ("port", 7)]) (vs1 := [7]) (g := gTup K 2 (gCons (gName 5) (gCons (gName 6) gNil))) rfl sc_port_texts.nd (pi_list (pv 4)) (blkOk_by (N := ["part", "before", "_", "ports", "places", "name", "there", "port"]) (sc := defScope s_port_texts) (by decide +kernel)) (by decide) (fun _ _ _ _ _ => (pg_tup rfl (pgs_cons (pg_name (i := 5) sc_port_texts.nd rfl (.inl rfl)) (pgs_cons (pg_name (i := 6) sc_port_texts.nd rfl (.inl rfl)) pgs_nil)))) (fun _ _ _ _ _ => pts_nil) (fun _ _ _ _ _ => (pi_list (pe_ix (r := rIxT K) ix_tup (pe_dget (r1 hr) (pv 1) (pv 6) (fun _ _ => rfl)) pe_int (fun _ _ => rfl)))) (fun _ _ _ _ _ => (pg_name (i := 7) sc_port_texts.nd rfl (.inl rfl))) (fun _ _ _ _ _ => pts_nil) (fun _ _ _ _ _ => (pe_joined (.cons (pe_fmt (pv 5)) (.cons pe_str (.cons (pe_fmt (pv 7)) .nil)))))))))), ?_⟩
    rw [B.pl] at hA
    refine ⟨.ref a, rfl, a, _, rfl, h0, rfl, _, _, rfl, _, _, rfl, _, _, rfl, _, _, rfl, _, _, rfl, _, _, rfl, rfl, ?_⟩
    refine ⟨_, rfl, _, rfl, pl, rfl, ⟨ys, .of hy⟩, fun D nD => ?_⟩
    refine lc2_out (te := fun σ H Q => tJs [tFmt (tVar 5), tC (V.str ("." : Str)), tFmt (tVar 7)] Str.empty σ H fun out H1 => Q (V.str out) H1) (walk_list (K := K) (a := pl) (xs := ys)) (fun i G => Same H G ∧ G D = some (.lst (((pk.take i).flatMap fun x => x.2.po.map fun q => x.1 ++ ("." : Str) ++ q).map V.str))) ⟨same_upd nD, upd_same⟩ (fun _ _ z => .of (z.1 _ _ hy)) (fun i x G Hx hi z y => ?_) (fun G z => ?_)
    · obtain ⟨sm, hD⟩ := z
      obtain ⟨rfl, hx⟩ := y
      obtain ⟨pr, hpr, t, rfl, hq⟩ := hA.get hx
      rw [List.getElem?_map] at hpr
      cases ek : pk[i]? with
      | none => rw [ek] at hpr; cases hpr
      | some kx =>
        rw [ek] at hpr
        obtain rfl := Option.some.inj hpr
        have mk := mem_at ek
        obtain ⟨v, hv, ka, kpo, kinn, kpl, kla, kjo, rfl, hkt, hkpo, _⟩ := hk kx mk
        have tk : (pk.take (i + 1)).flatMap (fun x => x.2.po.map fun q => x.1 ++ ("." : Str) ++ q) = (pk.take i).flatMap (fun x => x.2.po.map fun q => x.1 ++ ("." : Str) ++ q) ++ kx.2.po.map fun q => kx.1 ++ ("." : Str) ++ q := by rw [take_snoc ek, List.flatMap_append, List.flatMap_singleton]
        have lp := B.lk kx mk
        have gp := B.gk kx mk
        have gn := B.gn kx mk
        have hkpo' := sm _ _ hkpo
        have ll : ((pk.take i).flatMap fun x => x.2.po.map fun q => x.1 ++ ("." : Str) ++ q).length ≤ 20 * (pk.take i).length := by
          exact txs20 _ fun x hx => B.lk x (List.mem_of_mem_take hx)
        have l20 : (pk.take i).length ≤ 20 := by rw [List.length_take]; have := B.many; omega
        refine ⟨t, _, rfl, Same.seqT sm hq, rfl, _, _, rfl, _, _, rfl, rfl, rfl, _, rfl, _, rfl, d, _, rfl, by rw [← hv]; exact DGet.k (k := Sum.inr kx.2.nm) (sm _ _ hd), ka, _, _, _, rfl, rfl, Same.seqT sm hkt, rfl, kpo, rfl, ⟨_, .of hkpo'⟩, ?_⟩
        refine lc2_in (te := fun σ H Q => tJs [tFmt (tVar 5), tC (V.str ("." : Str)), tFmt (tVar 7)] Str.empty σ H fun out H1 => Q (V.str out) H1) (walk_list (K := K) (a := kpo) (xs := kx.2.po.map V.str)) (fun j G => Same H G ∧ G D = some (.lst ((((pk.take i).flatMap fun x => x.2.po.map fun q => x.1 ++ ("." : Str) ++ q) ++ (kx.2.po.take j).map fun q => kx.1 ++ ("." : Str) ++ q).map V.str))) ⟨sm, by rw [List.take_zero, List.map_nil, List.append_nil]; exact hD⟩ (fun _ _ z => .of (z.1 _ _ hkpo)) (fun j y G G' hj z yy => ?_) (fun G z => ?_)
        · obtain ⟨sg, hD⟩ := z
          obtain ⟨rfl, hy2⟩ := yy
          rw [List.getElem?_map] at hy2
          cases ej : kx.2.po[j]? with
          | none => rw [ej] at hy2; cases hy2
          | some qn =>
            rw [ej] at hy2
            obtain rfl := Option.some.inj hy2
            have g1 := gn.1
            have g2 := (gp qn (mem_at ej)).1
            have es : ∀ x : Str, (Str.empty ++ x : Str) = x := str_empty
            have lt := hj
            rw [List.length_map] at lt
            refine ⟨rfl, _, rfl, .inl ⟨kx.1, rfl, small (by omega), _, rfl, ?_, _, rfl, ?_, _, rfl, .inl ⟨qn, rfl, small (by omega), _, rfl, ?_, _, hD, ?_, same_over sg nD, ?_⟩⟩⟩
            · rw [es]; exact small (by omega)
            · rw [es, Str.length_append]; exact small (by show _ + 1 ≤ 60000; omega)
            · rw [es, Str.length_append, Str.length_append]; exact small (by show _ + 1 + _ ≤ 60000; omega)
            · rw [List.length_map, List.length_append, List.length_map, List.length_take]; exact small' (by omega)
            · rw [upd_same, es, take_snoc ej]
              simp only [List.map_append, List.append_assoc, List.map_cons, List.map_nil]
        · obtain ⟨sg, hD⟩ := z
          rw [List.length_map, List.take_length] at hD
          exact ⟨sg, by rw [tk]; exact hD⟩
    · obtain ⟨sm, hD⟩ := z
      have el := hA.len
      rw [List.length_map] at el
      rw [List.take_of_length_le (by omega)] at hD
      refine ⟨po, D, _, _, rfl, rfl, sm _ _ h1, hD, ?_, fun z nz => q _ z (sm.trans (same_upd nz)) (same_none sm nz) ?_⟩
      · have h2 : ((pk).flatMap fun x => x.2.po.map fun q => x.1 ++ ("." : Str) ++ q).length ≤ 20 * pk.length := txs20 _ B.lk
        have h3 := B.po
        have h4 := B.many
        rw [List.length_map, List.length_map]
        exact small (by omega)
      · show upd G z _ z = _
        rw [upd_same, ← List.map_append]; rfl
end
end K08
-- N8
namespace K08
open PySem PySem.Spec PyProof.Rows L2
section
variable {P : Program} {w : World} {K : PySem.W.Frag} {mg : Str → Option Value} {base : Heap}
theorem len_app (a b : Str) : (a ++ b).length = a.length + b.length := by
  show (a.cps ++ b.cps).size = a.cps.size + b.cps.size
  exact Array.size_append
theorem small2 {x : Nat} (h : x ≤ 2000) : x ≤ sizeLine := Nat.le_trans h (by decide)
def sp_wording : Sp := fun vs H Q _ => ∃ (nm : Str) (i : Int), vs = [.str nm, .int i] ∧ nm.length ≤ 1000 ∧ i.natAbs < 10 ^ 12 ∧ ∀ t : Str, Q (.str t) H
theorem ok_wording (T : Txt K mg) : FnOk P w K mg base CX0 1 T.wording.a T.wording.fd ["name", "at"] sp_wording := by
  refine T.wording.F.ok sc_wording (fun vs H Q E h => ?_) (fun cdv A outer s H vs Q E hr h => ?_)
  · obtain ⟨nm, i, rfl, _⟩ := h
    rfl
  · obtain ⟨nm, i, rfl, hn, h1, q⟩ := h
    refine ⟨_, (pss_cons (ps_if (pt_cmpR op_gt (pe_bits (pv 1)) pe_int (nomark _))
        (pss_one (ps_ret (pe_joined (.cons (pe_fmt (pv 0)) (.cons pe_str (.cons (pe_fmt (pe_bits (pv 1))) (.cons pe_str .nil)))))))
        pss_nil)
      (pss_one (ps_ret (pe_joined (.cons (pe_fmt (pv 0)) (.cons pe_str (.cons (pe_fmt (pv 1)) .nil))))))), ?_⟩
    have e : i.natAbs < 2 ^ 40 := Nat.lt_of_lt_of_le h1 (by decide)
    have hb := LX.bits_le e
    refine ⟨_, rfl, i, rfl, _, _, rfl, rfl, _, rfl, ?_⟩
    rw [decide_eq_false (by omega)]
    have lt : (Str.ofString (toString i)).length ≤ 13 := LX.text_len (by decide) h1
    refine iteF ⟨_, rfl, .inl ⟨nm, rfl, small2 (by omega), nm, rfl, ?_, _, rfl, ?_, _, rfl, .inr ⟨i, rfl, ?_, _, rfl, ?_, q _⟩⟩⟩
    · rw [len_app]; exact small2 (by show 0 + _ ≤ _; omega)
    · rw [len_app, len_app]; exact small2 (by show 0 + _ + 4 ≤ _; omega)
    · exact Nat.lt_of_lt_of_le (PySem.Flt.log2_lt_of (by decide) e) (by decide)
    · rw [len_app, len_app, len_app]; exact small2 (by show 0 + _ + 4 + _ ≤ _; omega)
theorem ok_init (T : Txt K mg) (X : Errs K mg) : FnOk P w K mg base CX0 2 X.e0.f X.e0.fd ["self", "at"] (LX.sp_init K) := by
  refine X.e0.F.ok sc_init (fun vs H Q E h => ?_) (fun cdv A outer s H vs Q E hr h => ?_)
  · obtain ⟨e, C, nm, i, rfl, _⟩ := h
    rfl
  · obtain ⟨e, C, nm, i, rfl, he, hn, ho, na, h1, q⟩ := h
    refine ⟨_, pss_cons (ps_expr (pe_veinit (by rfl) X.e0.mV X.e0.vV (pa_cons (pv 0) (pa_cons (pe_call (ok_wording T) (hr.mono (by decide)) (by rfl) T.wording.g T.wording.F.kp T.wording.b .nil pass0 (pa_cons (LX.pe_cn (pv 0)) (pa_cons (pv 1) pa_nil))) pa_nil))))
      (pss_one (ps_ost (pv 0) (pv 1))), ?_⟩
    refine ⟨.ref e, rfl, .ref e, rfl, e, C, nm, rfl, he, hn, _, rfl, nm, i, rfl, hn.sz, h1, fun t => ⟨e, C, _, rfl, by show 1 ≤ 1000; decide, ho, he, ?_⟩⟩
    exact ⟨_, rfl, .ref e, rfl, e, C, rfl, ho, na, .inl ⟨he, fun d hd ne => q d hd ne⟩⟩
/-! ### the parts by their names -/
theorem dget {H : Hp} {a : Addr} {kvs : List (Key × V)} {k : Key} {v : V} (h : H a = some (.dK kvs)) (e : valV kvs k = some v) : DGet H a (kV k) (some v) := by
  rw [← e]
  exact DGet.k h
/-- a dict comprehension over a list that stands still -/
theorem dc_list {a : Addr} {xs : List V} {g : TG} {tt : TT} {tk tv : TE} {vs : List Nat} {σ : L2.St} {H1 : Hp} {D : Addr} {Qd : Hp → Prop} (Pv : Nat → Hp → Prop) (h0 : Pv 0 (upd H1 D (.dK []))) (hG : ∀ i G, Pv i G → SqL K G a xs)
    (hs : ∀ i x G, xs[i]? = some x → Pv i G → g x (wipe σ vs) G fun σ2 H2 => wipe σ2 vs = wipe σ vs ∧ tt σ2 H2 fun b H3 => if b = true then tk σ2 H3 fun y H4 => tv σ2 H4 fun z H5 => ∃ (kvs : List (Key × V)) (k : Key), y = kV k ∧ H5 D = some (.dK kvs) ∧ kvs.length < sizeLine ∧ Pv (i + 1) (upd H5 D (.dK (putK kvs k z))) else Pv (i + 1) H3)
    (hd : ∀ G, Pv xs.length G → Qd G) : ∃ W : Nat → Nat → Hp → Prop, (∃ m, W 0 m (upd H1 D (.dK []))) ∧ ∀ i m H, W i m H → ((Itl K a).stop i H ∧ Qd H) ∨ ((Itl K a).go i H ∧ ∃ Nx : Hp → Prop, (∀ H', Nx H' → ∃ m', m' < m ∧ W (i + 1) m' H') ∧
      ∀ x H', (Itl K a).yld i H x H' → g x (wipe σ vs) H' fun σ2 H2 => wipe σ2 vs = wipe σ vs ∧ tt σ2 H2 fun b H3 => if b = true then tk σ2 H3 fun y H4 => tv σ2 H4 fun z H5 => ∃ (kvs : List (Key × V)) (k : Key), y = kV k ∧ H5 D = some (.dK kvs) ∧ kvs.length < sizeLine ∧ Nx (upd H5 D (.dK (putK kvs k z))) else Nx H3) := by
  have w := walk_list (K := K) (a := a) (xs := xs)
  refine ⟨fun j k H => k + j = xs.length ∧ Pv j H, ⟨xs.length, rfl, h0⟩, fun j k H ⟨e, p⟩ => ?_⟩
  rcases Nat.lt_or_ge j xs.length with lt | ge
  · refine .inr ⟨w.goes j H lt (hG j H p), Pv (j + 1), fun H' p' => ⟨k - 1, by omega, by omega, p'⟩, fun x H' y => ?_⟩
    obtain ⟨rfl, hx⟩ := w.yields j H x H' lt (hG j H p) y
    exact hs j x _ hx p
  · obtain rfl : j = xs.length := by omega
    exact .inl ⟨w.stops H (hG _ H p), hd H p⟩
/-- the dict of a book -/
def kvB (bk : List Prt) (xs : List V) : List (Key × V) := List.zipWith (fun p x => ((.inr p.nm : Key), x)) bk xs
theorem kvB_snoc {bk : List Prt} {xs : List V} {p : Prt} {x : V} (e : bk.length = xs.length) : kvB (bk ++ [p]) (xs ++ [x]) = kvB bk xs ++ [(.inr p.nm, x)] := by
  unfold kvB
  rw [List.zipWith_append e]; rfl
theorem kvB_none {nm : Str} : ∀ {bk : List Prt} {xs : List V}, (∀ p ∈ bk, p.nm ≠ nm) → valV (kvB bk xs) (.inr nm) = none
  | [], _, _ => rfl
  | _ :: _, [], _ => rfl
  | p :: bk, x :: xs, h => by
    show valV ((.inr p.nm, x) :: kvB bk xs) (.inr nm) = none
    rw [valV_neg (fun z => h p List.mem_cons_self (Sum.inr.inj z))]
    exact kvB_none fun q hq => h q (List.mem_cons_of_mem _ hq)
theorem kvB_some : ∀ {bk : List Prt} {xs : List V} {i : Nat} {p : Prt} {x : V}, (bk.map (·.nm)).Nodup → bk[i]? = some p → xs[i]? = some x → valV (kvB bk xs) (.inr p.nm) = some x
  | [], _, _, _, _, _, h, _ => by simp at h
  | _ :: _, [], _, _, _, _, _, h => by simp at h
  | q :: bk, y :: xs, 0, p, x, _, hp, hx => by
    simp at hp hx
    subst hp; subst hx
    exact valV_pos rfl
  | q :: bk, y :: xs, i + 1, p, x, nd, hp, hx => by
    have hp : bk[i]? = some p := by simpa using hp
    have hx : xs[i]? = some x := by simpa using hx
    obtain ⟨n1, n2⟩ := List.nodup_cons.mp (by simpa using nd : (q.nm :: bk.map (·.nm)).Nodup)
    show valV ((.inr q.nm, y) :: kvB bk xs) (.inr p.nm) = some x
    rw [valV_neg (fun z => n1 (by rw [Sum.inr.inj z]; exact List.mem_map_of_mem (mem_at hp)))]
    exact kvB_some n2 hp hx
def sp_by_name (K : PySem.W.Frag) (C : Addr) : Sp := fun vs H Q E => ∃ (b : Addr) (nm : Str) (xs : List V) (bk : List Prt), vs = [.ref b, .str nm] ∧ H b = some (.lst xs) ∧ A2 (PT K H) xs bk ∧ bk.length ≤ 1000 ∧ (bk.map (·.nm)).Nodup ∧
  ((∀ p ∈ bk, p.nm ≠ nm) → ∀ H1, Same H H1 → ∀ dd, H1 dd = none → E (.ref C) (some dd) (upd H1 dd (.xd [("at", .int 0)]))) ∧
  ((∃ p ∈ bk, p.nm = nm) → ∀ (H' : Hp) (d : Addr), Same H H' → H d = none → H' d = some (.dK (kvB bk xs)) → Q (.ref d) H')
theorem ok_by_name (T : Txt K mg) (X : Errs K mg) : FnOk P w K mg base (L2.CX P w) 4 T.by_name.a T.by_name.fd ["book", "name"] (sp_by_name K X.NoPart.C) := by
  refine T.by_name.F.okX sc_by_name (fun vs H Q E h => ?_) (fun cdv A outer s H vs Q E hr h => ?_)
  · obtain ⟨b, nm, xs, bk, rfl, _⟩ := h
    rfl
  · obtain ⟨b, nm, xs, bk, rfl, hb, hA, lb, nd, qE, qT⟩ := h
    refine ⟨_, (pss_cons (LD.ps_setDc (i := 2) (own := [("part", 3)]) rfl sc_by_name.nd rfl rfl (LD.sw_dict rfl rfl rfl (by decide +kernel)) (pi_list (pv 0)) (blkOk_by (N := ["book", "name", "found", "part"]) (sc := defScope s_by_name) (by decide +kernel)) (fun _ _ _ _ _ => (pg_name (i := 3) sc_by_name.nd rfl (.inl rfl))) (fun _ _ _ _ _ => pts_nil) (fun _ _ _ _ _ => (pe_ix (r := rIxT K) ix_tup (pv 3) pe_int (fun _ _ => rfl))) (fun _ _ _ _ _ => (pv 3)))
      (pss_cons (ps_if (pt_cmp (pc_dnotin (r1 hr) (pv 1) (pv 2)))
        (pss_one (ps_raise rfl (takes_of rfl rfl rfl rfl) (pmk_oex X.NoPart.oex X.NoPart.iC X.e0.tI (ok_init T X) (hr.mono (by decide)) X.e0.b .nil pass0 (by rfl) X.NoPart.g (pa_cons pe_int pa_nil))))
        pss_nil)
      (pss_one (ps_ret (pv 2))))), ?_⟩
    have el := hA.len
    refine ⟨.ref b, rfl, b, rfl, ⟨xs, .of hb⟩, fun D nD => ?_⟩
    refine dc_list (K := K) (a := b) (xs := xs) (fun i G => Same H G ∧ G D = some (.dK (kvB (bk.take i) (xs.take i)))) ⟨same_upd nD, upd_same⟩ (fun _ _ z => .of (z.1 _ _ hb)) (fun i x G hx z => ?_) (fun G z => ?_)
    · obtain ⟨sm, hD⟩ := z
      obtain ⟨p, hp, hP⟩ := hA.get hx
      obtain ⟨ka, kpo, kinn, kpl, kla, kjo, rfl, hkt, _⟩ := hP
      have hi : i < bk.length := (List.getElem?_eq_some_iff.mp hp).1
      have nn : valV (kvB (bk.take i) (xs.take i)) (.inr p.nm) = none := kvB_none fun q hq e => by
        obtain ⟨j, hj, rfl⟩ := List.getElem_of_mem hq
        rw [List.length_take] at hj
        rw [List.getElem_take] at e
        have := (List.getElem_inj (i := j) (j := i) (h₀ := by rw [List.length_map]; omega) (h₁ := by rw [List.length_map]; omega) nd).mp (by
          rw [List.getElem_map, List.getElem_map, e]
          have : bk[i] = p := by rw [List.getElem?_eq_getElem hi] at hp; exact Option.some.inj hp
          rw [this])
        omega
      refine ⟨rfl, _, rfl, _, _, _, _, rfl, rfl, Same.seqT sm hkt, rfl, _, rfl, _, .inr p.nm, rfl, hD, ?_, ?_⟩
      · have : (kvB (bk.take i) (xs.take i)).length ≤ bk.length := by
          unfold kvB
          rw [List.length_zipWith, List.length_take]
          omega
        exact small' (by omega)
      · refine ⟨same_over sm nD, ?_⟩
        rw [upd_same, putK_new _ nn, take_snoc hp, take_snoc hx, kvB_snoc (by rw [List.length_take, List.length_take]; omega)]
    · obtain ⟨sm, hD⟩ := z
      rw [List.take_of_length_le (by omega), List.take_of_length_le (Nat.le_refl _)] at hD
      by_cases h : ∃ p ∈ bk, p.nm = nm
      · obtain ⟨p, hp, rfl⟩ := id h
        obtain ⟨i, hi, rfl⟩ := List.getElem_of_mem hp
        have e1 : bk[i]? = some bk[i] := by simp [hi]
        have e2 : xs[i]? = some (xs[i]'(by omega)) := by simp [show i < xs.length by omega]
        exact ⟨_, rfl, _, rfl, D, _, rfl, dget hD (kvB_some nd e1 e2), _, rfl, iteF ⟨_, rfl, qT h G D sm nD hD⟩⟩
      · have hn : ∀ p ∈ bk, p.nm ≠ nm := fun p hp e => h ⟨p, hp, e⟩
        have g0 : DGet G D (kV (.inr nm)) none := by
          rw [← kvB_none (xs := xs) hn]
          exact DGet.k hD
        exact ⟨_, rfl, _, rfl, D, _, rfl, g0, _, rfl, iteT ⟨by show 1 ≤ 1000; decide, LX.raised X.NoPart (by decide) fun dd hdd => qE hn G sm dd hdd⟩⟩
end
end K08
-- R8
namespace K08
open PySem PySem.Spec PyProof.Rows L2
section
variable {P : Program} {w : World} {K : PySem.W.Frag} {mg : Str → Option Value} {base : Heap}
/-! ### groups -/
/-- a dict comprehension over any walk -/
theorem dc_walk {J : It} {n : Nat} {GG : Hp → Prop} {Y : Nat → Hp → V → Hp → Prop} {g : TG} {tt : TT} {tk tv : TE} {vs : List Nat} {σ : L2.St} {H1 : Hp} {D : Addr} {Qd : Hp → Prop} (w : Walk J n GG Y) (Pv : Nat → Hp → Prop) (h0 : Pv 0 (upd H1 D (.dK []))) (hG : ∀ i G, Pv i G → GG G)
    (hs : ∀ i x G G', i < n → Pv i G → Y i G x G' → g x (wipe σ vs) G' fun σ2 H2 => wipe σ2 vs = wipe σ vs ∧ tt σ2 H2 fun b H3 => if b = true then tk σ2 H3 fun y H4 => tv σ2 H4 fun z H5 => ∃ (kvs : List (Key × V)) (k : Key), y = kV k ∧ H5 D = some (.dK kvs) ∧ kvs.length < sizeLine ∧ Pv (i + 1) (upd H5 D (.dK (putK kvs k z))) else Pv (i + 1) H3)
    (hd : ∀ G, Pv n G → Qd G) : ∃ W : Nat → Nat → Hp → Prop, (∃ m, W 0 m (upd H1 D (.dK []))) ∧ ∀ i m H, W i m H → (J.stop i H ∧ Qd H) ∨ (J.go i H ∧ ∃ Nx : Hp → Prop, (∀ H', Nx H' → ∃ m', m' < m ∧ W (i + 1) m' H') ∧
      ∀ x H', J.yld i H x H' → g x (wipe σ vs) H' fun σ2 H2 => wipe σ2 vs = wipe σ vs ∧ tt σ2 H2 fun b H3 => if b = true then tk σ2 H3 fun y H4 => tv σ2 H4 fun z H5 => ∃ (kvs : List (Key × V)) (k : Key), y = kV k ∧ H5 D = some (.dK kvs) ∧ kvs.length < sizeLine ∧ Nx (upd H5 D (.dK (putK kvs k z))) else Nx H3) := by
  refine ⟨fun j k H => k + j = n ∧ Pv j H, ⟨n, rfl, h0⟩, fun j k H ⟨e, p⟩ => ?_⟩
  rcases Nat.lt_or_ge j n with lt | ge
  · exact .inr ⟨w.goes j H lt (hG j H p), Pv (j + 1), fun H' p' => ⟨k - 1, by omega, by omega, p'⟩, fun x H' y => hs j x H H' lt p (w.yields j H x H' lt (hG j H p) y)⟩
  · obtain rfl : j = n := by omega
    exact .inl ⟨w.stops H (hG _ H p), hd H p⟩
/-- the dict tells each text's number -/
def GD (ts : List Str) (f : Nat → Nat) (kvs : List (Key × V)) : Prop := ∀ i t, ts[i]? = some t → valV kvs (.inr t) = some (.int (f i : Nat))
theorem at_eq {ts : List Str} (nd : ts.Nodup) {i j : Nat} {t : Str} (a : ts[i]? = some t) (b : ts[j]? = some t) : i = j := by
  obtain ⟨hi, ei⟩ := List.getElem?_eq_some_iff.mp a
  obtain ⟨hj, ej⟩ := List.getElem?_eq_some_iff.mp b
  exact (List.getElem_inj nd).mp (ei.trans ej.symm)
theorem put_len (kvs : List (Key × V)) (k : Key) (v : V) : (putK kvs k v).length ≤ kvs.length + 1 := by
  unfold putK
  split
  · rw [List.length_map]; omega
  · rw [List.length_append]; exact Nat.le_refl _
theorem put_same {kvs : List (Key × V)} {k : Key} {v u : V} (h : valV kvs k = some u) : (putK kvs k v).length = kvs.length := by
  unfold putK
  rw [valV_any, h]
  simp
/-- joints as numbers -/
def ixs (ts : List Str) (js : List (List Str)) : List (List Nat) := js.map fun j => j.map fun t => ts.idxOf t
theorem ix_at {ts : List Str} {t : Str} (h : t ∈ ts) : ts[ts.idxOf t]? = some t := by
  rw [List.getElem?_eq_getElem (List.idxOf_lt_length_of_mem h), List.getElem_idxOf]
def sp_groups : Sp := fun vs H Q _ => ∃ (a b : Addr) (ts : List Str) (js : List (List Str)) (xs : List V), vs = [.ref a, .ref b] ∧ SL H a ts ∧ H b = some (.lst xs) ∧ A2 (JoV H) xs js ∧ ts.Nodup ∧ ts.length ≤ 1000 ∧ js.length ≤ 1000 ∧ (∀ j ∈ js, j ≠ [] ∧ j.length ≤ 1000 ∧ ∀ t ∈ j, t ∈ ts) ∧
  ∀ (H' : Hp) (d : Addr) (f : Nat → Nat) (kvs : List (Key × V)), Same H H' → H d = none → H' d = some (.dK kvs) → kvs.length ≤ 1000 → GD ts f kvs → GP.In (ixs ts js) f → GP.Con (ixs ts js) f → Q (.ref d) H'
theorem ok_groups (T : Txt K mg) : FnOk P w K mg base CX0 1 T.groups.a T.groups.fd ["texts", "joints"] sp_groups := by
  refine T.groups.F.ok sc_groups (fun vs H Q E h => ?_) (fun cdv A outer s H vs Q E hr h => ?_)
  · obtain ⟨a, b, ts, js, xs, rfl, _⟩ := h
    rfl
  · obtain ⟨a, b, ts, js, xs, rfl, ha, hb, hA, nd, lt, lj, hj, q⟩ := h
    refine ⟨_, (pss_cons (ps_set (i := 3) sc_groups.nd rfl (.inr rfl) (pe_dc (own := [("k", 7), ("text", 2)]) (g := gTup K 2 (gCons (gName 7) (gCons (gName 2) gNil))) rfl sc_groups.nd (pi_enum (by rfl) T.m_enumerate (pa_cons (pv 0) pa_nil)) (blkOk_by (N := ["texts", "joints", "text", "group", "joint", "met", "least", "k"]) (sc := defScope s_groups) (by decide +kernel)) (fun _ _ _ _ _ => (pg_tup rfl (pgs_cons (pg_name (i := 7) sc_groups.nd rfl (.inl rfl)) (pgs_cons (pg_name (i := 2) sc_groups.nd rfl (.inl rfl)) pgs_nil)))) (fun _ _ _ _ _ => pts_nil) (fun _ _ _ _ _ => (pv 2)) (fun _ _ _ _ _ => (pv 7))))
      (pss_cons (ps_for PassesOwn.never rfl (pi_list (pv 1)) (pg_name (i := 4) sc_groups.nd rfl (.inl rfl))
        (pss_cons (LD.ps_setDc (i := 5) (own := [("text", 2)]) rfl sc_groups.nd rfl rfl (LD.sw_dict rfl rfl rfl (by decide +kernel)) (pi_list (pv 4)) (blkOk_by (N := ["texts", "joints", "text", "group", "joint", "met", "least", "k"]) (sc := defScope s_groups) (by decide +kernel)) (fun _ _ _ _ _ => (pg_name (i := 2) sc_groups.nd rfl (.inl rfl))) (fun _ _ _ _ _ => pts_nil) (fun _ _ _ _ _ => (pe_dget (r1 hr) (pv 3) (pv 2) (fun _ _ => rfl))) (fun _ _ _ _ _ => pe_bl))
        (pss_cons (ps_set (i := 6) sc_groups.nd rfl (.inl rfl) (pe_callB (cr_min rfl) (by rfl) T.m_min (by decide +kernel) (pa_cons (pe_lc (own := [("text", 2)]) rfl sc_groups.nd (pi_list (pv 4)) (blkOk_by (N := ["texts", "joints", "text", "group", "joint", "met", "least", "k"]) (sc := defScope s_groups) (by decide +kernel)) (fun _ _ _ _ _ => (pg_name (i := 2) sc_groups.nd rfl (.inl rfl))) (fun _ _ _ _ _ => pts_nil) (fun _ _ _ _ _ => (pe_dget (r1 hr) (pv 3) (pv 2) (fun _ _ => rfl)))) pa_nil)))
        (pss_one (ps_for PassesOwn.never rfl (pi_list (pv 0)) (pg_name (i := 2) sc_groups.nd rfl (.inl rfl))
          (pss_one (ps_if (pt_cmp (pc_din (r1 hr) (pe_dget (r1 hr) (pv 3) (pv 2) (fun _ _ => rfl)) (pv 5)))
            (pss_one (ps_asg (pv 6) (pg_sub (pv 3) (pv 2) (set_dict (r1 hr)))))
            pss_nil)))))))
      (pss_one (ps_ret (pv 3))))), ?_⟩
    refine ⟨.ref a, rfl, a, _, rfl, .of ha, fun D nD => ?_⟩
    refine dc_walk (walk_enum (K := K) (a := a) (xs := ts.map V.str)) (fun i G => Same H G ∧ ∃ kvs : List (Key × V), G D = some (.dK kvs) ∧ kvs.length ≤ i ∧ ∀ k t, k < i → ts[k]? = some t → valV kvs (.inr t) = some (.int (k : Nat))) ⟨same_upd nD, [], upd_same, Nat.le_refl _, fun k _ h => absurd h (Nat.not_lt_zero _)⟩ (fun _ _ z => .of (z.1 _ _ ha)) (fun i x G G' hi z y => ?_) (fun G z => ?_)
    · obtain ⟨sm, kvs, hD, lk, hk⟩ := z
      obtain ⟨T', i', x', rfl, nT, rfl, e1, hx⟩ := y
      obtain rfl := Option.some.inj e1
      rw [List.length_map] at hi
      have et : ts[i]? = some ts[i] := by simp [hi]
      have hx : (ts.map V.str)[i]? = some x' := hx
      rw [List.getElem?_map, et] at hx
      obtain rfl := Option.some.inj hx
      have sm2 := sm.trans (same_upd nT (o := .tup [.int (i : Nat), .str ts[i]]))
      refine ⟨T', _, rfl, .of upd_same, rfl, _, _, rfl, _, _, rfl, rfl, rfl, _, rfl, _, rfl, kvs, .inr ts[i], rfl, same_upd nT _ _ hD, small' (by omega), same_over sm2 nD, _, upd_same, Nat.le_trans (put_len _ _ _) (by omega), fun k t hk2 ht => ?_⟩
      rw [valV_put]
      by_cases e : (Sum.inr t : Key) = .inr ts[i]
      · rw [if_pos e]
        have e := Sum.inr.inj e
        subst e
        obtain rfl := at_eq nd ht et
        rfl
      · rw [if_neg e]
        refine hk k t ?_ ht
        rcases Nat.lt_or_ge k i with z | z
        · exact z
        · obtain rfl : k = i := by omega
          rw [et] at ht
          exact absurd (congrArg Sum.inr (Option.some.inj ht).symm) e
    · obtain ⟨sm, kvs, hD, lk, hk⟩ := z
      rw [List.length_map] at lk hk
      refine ⟨.ref b, rfl, b, rfl, ⟨_, .of (sm _ _ hb)⟩, ?_⟩
      refine for_it (walk_list (K := K) (a := b) (xs := xs)) (fun i σ G => Same H G ∧ ∃ (v2 v4 v5 v6 : Option V) (f : Nat → Nat) (kvs : List (Key × V)), σ = [some (.ref a), some (.ref b), v2, some (.ref D), v4, v5, v6, none] ∧ G D = some (.dK kvs) ∧ kvs.length ≤ 1000 ∧ GD ts f kvs ∧ GP.In (ixs ts js) f ∧ GP.Con (ixs ts (js.take i)) f)
        ⟨sm, none, none, none, none, fun x => x, kvs, rfl, hD, by omega, fun k t h => hk k t (List.getElem?_eq_some_iff.mp h).1 h, GP.In.id _, fun j hj => by cases hj⟩ (fun _ _ _ _ z => .of (z.1 _ _ hb)) (fun i x σ G Gx hi pv y => ?_) (fun σ G pv => ?_)
      · obtain ⟨sm, v2, v4, v5, v6, f, kvs, rfl, hD, lk, gd, fI, fC⟩ := pv
        obtain ⟨rfl, hx⟩ := y
        obtain ⟨jo, hjo, ja, rfl, hja⟩ := hA.get hx
        obtain ⟨jne, jl, jm⟩ := hj jo (mem_at hjo)
        have hja2 := sm _ _ hja
        refine ⟨_, rfl, ja, rfl, ⟨_, .of hja2⟩, fun M nM => ?_⟩
        have MD : M ≠ D := fun z => by rw [z, hD] at nM; cases nM
        refine dc_walk (walk_list (K := K) (a := ja) (xs := jo.map V.str)) (fun i G => Same Gx G ∧ ∃ kv : List (Key × V), G M = some (.dK kv) ∧ kv.length ≤ i ∧ ∀ n : Nat, (valV kv (.inl (n : Int))).isSome = true ↔ ∃ t ∈ jo.take i, f (ts.idxOf t) = n)
          ⟨same_upd nM, [], upd_same, Nat.le_refl _, fun n => ⟨fun h => (by cases h), fun ⟨t, h, _⟩ => by cases h⟩⟩ (fun _ _ z => .of (z.1 _ _ hja2)) (fun k x G G' hk z y => ?_) (fun G z => ?_)
        · obtain ⟨sg, kv, hM, lv, iv⟩ := z
          obtain ⟨rfl, hx⟩ := y
          rw [List.length_map] at hk
          have et : jo[k]? = some jo[k] := by simp [hk]
          rw [List.getElem?_map, et] at hx
          obtain rfl := Option.some.inj hx
          have mt : jo[k] ∈ ts := jm _ (List.getElem_mem hk)
          refine ⟨rfl, _, rfl, _, rfl, D, _, rfl, dget (sg _ _ hD) (gd _ _ (ix_at mt)), kv, .inl (f (ts.idxOf jo[k]) : Nat), rfl, hM, small' (by omega), same_over sg nM, _, upd_same, Nat.le_trans (put_len _ _ _) (by omega), fun n => ?_⟩
          rw [valV_put, take_snoc et]
          by_cases e : (Sum.inl (n : Int) : Key) = .inl ((f (ts.idxOf jo[k]) : Nat) : Int)
          · rw [if_pos e]
            have e : n = f (ts.idxOf jo[k]) := by have := Sum.inl.inj e; omega
            exact ⟨fun _ => ⟨jo[k], List.mem_append_right _ (List.mem_singleton.mpr rfl), e.symm⟩, fun _ => rfl⟩
          · rw [if_neg e, iv n]
            refine ⟨fun ⟨t, h, g⟩ => ⟨t, List.mem_append_left _ h, g⟩, fun ⟨t, h, g⟩ => ?_⟩
            rcases List.mem_append.mp h with h | h
            · exact ⟨t, h, g⟩
            · obtain rfl := List.mem_singleton.mp h
              exact absurd (by rw [g]) e
        · obtain ⟨sg, kv, hM, lv, iv⟩ := z
          rw [List.length_map, List.take_length] at iv
          refine ⟨_, rfl, ja, rfl, ⟨_, .of (sg _ _ hja2)⟩, fun L nL => ?_⟩
          refine lc_rel (xs := jo.map V.str) (fun k y => ∀ t, jo[k]? = some t → y = .int (f (ts.idxOf t) : Nat)) nL (.of (sg _ _ hja2)) (small' (by rw [List.length_map]; omega)) (fun k x G2 Q' hx sm2 hq => ?_) (fun G2 zs sm2 hL hn hr => ?_)
          · rw [List.getElem?_map] at hx
            cases ej : jo[k]? with
            | none => rw [ej] at hx; cases hx
            | some t =>
              rw [ej] at hx
              obtain rfl := Option.some.inj hx
              refine ⟨_, rfl, _, rfl, D, _, rfl, dget (sm2 _ _ (sg _ _ hD)) (gd _ _ (ix_at (jm t (mem_at ej)))), hq _ fun t' h => ?_⟩
              rw [ej] at h
              obtain rfl := Option.some.inj h
              rfl
          · have ez : zs = (jo.map fun t => ((f (ts.idxOf t) : Nat) : Int)).map V.int := by
              refine List.ext_getElem? fun k => ?_
              rw [List.length_map] at hn
              rw [List.map_map, List.getElem?_map]
              rcases Nat.lt_or_ge k jo.length with hk | hk
              · obtain ⟨y, h⟩ : ∃ y, zs[k]? = some y := ⟨zs[k]'(by omega), by simp [show k < zs.length by omega]⟩
                have e : jo[k]? = some jo[k] := by simp [hk]
                rw [h, e, hr k y h _ e]; rfl
              · rw [List.getElem?_eq_none (by omega), List.getElem?_eq_none hk]; rfl
            subst ez
            refine ⟨L, _, rfl, .of hL, by rw [List.length_map]; exact List.length_pos_iff.mpr jne, fun m hm hle => ?_⟩
            obtain ⟨t0, ht0, rfl⟩ := List.mem_map.mp hm
            have sH : Same H G2 := sm.trans (sg.trans sm2)
            have hM2 := sm2 _ _ hM
            have hD2 := sm2 _ _ (sg _ _ hD)
            generalize elow : f (ts.idxOf t0) = low
            have hlow : ∀ t ∈ jo, low ≤ f (ts.idxOf t) := fun t ht => by
              have := hle _ (List.mem_map_of_mem (f := fun t => ((f (ts.idxOf t) : Nat) : Int)) ht)
              rw [elow] at this
              omega
            refine ⟨.ref a, rfl, a, rfl, ⟨_, .of (sH _ _ ha)⟩, ?_⟩
            refine for_it (walk_list (K := K) (a := a) (xs := ts.map V.str)) (fun k σ G => Same H G ∧ G M = some (.dK kv) ∧ ∃ (v2 : Option V) (kv2 : List (Key × V)), σ = [some (.ref a), some (.ref b), v2, some (.ref D), some (.ref ja), some (.ref M), some (.int (low : Nat)), none] ∧ G D = some (.dK kv2) ∧ kv2.length ≤ 1000 ∧
                ∀ i t, ts[i]? = some t → valV kv2 (.inr t) = some (.int ((if i < k then GP.merge f (jo.map fun t => ts.idxOf t) low i else f i : Nat) : Nat)))
              ⟨sH, hM2, v2, kvs, rfl, hD2, lk, fun i t h => by rw [if_neg (Nat.not_lt_zero _)]; exact gd i t h⟩ (fun _ _ _ _ z => .of (z.1 _ _ ha)) (fun k x σ G Gx hk pv y => ?_) (fun σ G pv => ?_)
            · obtain ⟨sm3, hM3, v2, kv2, rfl, hD3, lk3, gd3⟩ := pv
              obtain ⟨rfl, hx⟩ := y
              rw [List.length_map] at hk
              have et : ts[k]? = some ts[k] := by simp [hk]
              rw [List.getElem?_map, et] at hx
              obtain rfl := Option.some.inj hx
              have e0 := gd3 k _ et
              rw [if_neg (Nat.lt_irrefl k)] at e0
              have met : (valV kv (.inl ((f k : Nat) : Int))).isSome = true ↔ f k ∈ (jo.map fun t => ts.idxOf t).map f := by
                rw [iv (f k), List.map_map]
                exact ⟨fun ⟨t, h, g⟩ => List.mem_map.mpr ⟨t, h, g⟩, fun h => let ⟨t, h, g⟩ := List.mem_map.mp h; ⟨t, h, g⟩⟩
              refine ⟨_, rfl, _, rfl, D, _, rfl, dget hD3 e0, _, rfl, M, _, rfl, DGet.k (k := Sum.inl ((f k : Nat) : Int)) hM3, _, rfl, ?_⟩
              refine ite2 (fun hm => ?_) (fun hm => ?_)
              · refine ⟨_, rfl, _, rfl, _, rfl, D, _, rfl, .inl ⟨kv2, .inr ts[k], hD3, rfl, small' (by omega), rfl⟩, ?_⟩
                refine ⟨same_over sm3 nD, by rw [upd_ne MD]; exact hM3, _, _, rfl, upd_same, by rw [put_same e0]; exact lk3, fun i t hi => ?_⟩
                rw [valV_put]
                by_cases e : (Sum.inr t : Key) = .inr ts[k]
                · have e' := Sum.inr.inj e
                  subst e'
                  obtain rfl := at_eq nd hi et
                  rw [if_pos e, if_pos (Nat.lt_succ_self _)]
                  unfold GP.merge
                  rw [if_pos (met.mp hm)]
                · rw [if_neg e, gd3 i t hi]
                  have : i ≠ k := fun z => by
                    subst z
                    rw [et] at hi
                    exact e (congrArg Sum.inr (Option.some.inj hi).symm)
                  by_cases z : i < k
                  · rw [if_pos z, if_pos (Nat.lt_succ_of_lt z)]
                  · rw [if_neg z, if_neg (by omega)]
              · refine ⟨sm3, hM3, _, kv2, rfl, hD3, lk3, fun i t hi => ?_⟩
                rw [gd3 i t hi]
                by_cases z : i < k
                · rw [if_pos z, if_pos (Nat.lt_succ_of_lt z)]
                · rw [if_neg z]
                  by_cases z2 : i = k
                  · subst z2
                    rw [if_pos (Nat.lt_succ_self _)]
                    unfold GP.merge
                    rw [if_neg fun h => hm (met.mpr h)]
                  · rw [if_neg (by omega)]
            · obtain ⟨sm3, hM3, v2, kv2, rfl, hD3, lk3, gd3⟩ := pv
              rw [List.length_map] at gd3
              have mj : (jo.map fun t => ts.idxOf t) ∈ ixs ts js := List.mem_map_of_mem (f := fun j : List Str => j.map fun t => ts.idxOf t) (mem_at hjo)
              refine ⟨sm3, _, _, _, _, GP.merge f (jo.map fun t => ts.idxOf t) low, kv2, rfl, hD3, lk3, fun i t h => ?_, GP.merge_in fI mj ⟨_, List.mem_map_of_mem ht0, elow⟩ (fun x hx => ?_), ?_⟩
              · have := gd3 i t h
                rw [if_pos (List.getElem?_eq_some_iff.mp h).1] at this
                exact this
              · obtain ⟨t, ht, rfl⟩ := List.mem_map.mp hx
                exact hlow t ht
              · have := GP.merge_con (j := jo.map fun t => ts.idxOf t) (least := low) fC
                unfold ixs at this ⊢
                rw [take_snoc hjo, List.map_append]
                exact this
      · obtain ⟨sm, v2, v4, v5, v6, f, kvs, rfl, hD, lk, gd, fI, fC⟩ := pv
        rw [hA.len, List.take_length] at fC
        exact ⟨_, rfl, q G D f kvs sm nD hD lk gd fI fC⟩
end
end K08
-- S8
namespace K08
open PySem PySem.Spec PyProof.Rows L2
section
variable {P : Program} {w : World} {K : PySem.W.Frag} {mg : Str → Option Value} {base : Heap}
/-! ### nodes of a part -/
section
variable {J J1 : It} {n : Nat} {GG : Hp → Prop} {Y : Nat → Hp → V → Hp → Prop} {g g1 : TG} {tt tt1 : TT} {wi1 : TI} {tk tv : TE} {vs vs1 : List Nat} {σ σ2 : L2.St} {H1 H4 : Hp} {D : Addr}
theorem dc_in {Nx : Hp → Prop} (w : Walk J1 n GG Y) (Pv : Nat → Hp → Prop) (h0 : Pv 0 H4) (hG : ∀ j H, Pv j H → GG H)
    (hs : ∀ j x H H', j < n → Pv j H → Y j H x H' → LD.StepI g1 tt1 tk tv vs1 σ2 D (Pv (j + 1)) x H') (hd : ∀ H, Pv n H → Nx H) : LD.TurnsI J1 g1 tt1 tk tv vs1 σ2 D Nx H4 := by
  refine ⟨fun j k H => k + j = n ∧ Pv j H, ⟨n, rfl, h0⟩, fun j k H ⟨e, p⟩ => ?_⟩
  rcases Nat.lt_or_ge j n with lt | ge
  · exact .inr ⟨w.goes j H lt (hG j H p), Pv (j + 1), fun H' p' => ⟨k - 1, by omega, by omega, p'⟩, fun x H' y => hs j x H H' lt p (w.yields j H x H' lt (hG j H p) y)⟩
  · obtain rfl : j = n := by omega
    exact .inl ⟨w.stops H (hG j H p), hd H p⟩
theorem dc_out {Qd : Hp → Prop} (w : Walk J n GG Y) (Pv : Nat → Hp → Prop) (h0 : Pv 0 (upd H1 D (.dK []))) (hG : ∀ j H, Pv j H → GG H)
    (hs : ∀ i x H H', i < n → Pv i H → Y i H x H' → LD.StepO g tt wi1 g1 tt1 tk tv vs vs1 σ D (Pv (i + 1)) x H') (hd : ∀ H, Pv n H → Qd H) : LD.TurnsO J g tt wi1 g1 tt1 tk tv vs vs1 σ D H1 Qd := by
  refine ⟨fun j k H => k + j = n ∧ Pv j H, ⟨n, rfl, h0⟩, fun j k H ⟨e, p⟩ => ?_⟩
  rcases Nat.lt_or_ge j n with lt | ge
  · exact .inr ⟨w.goes j H lt (hG j H p), Pv (j + 1), fun H' p' => ⟨k - 1, by omega, by omega, p'⟩, fun x H' y => hs j x H H' lt p (w.yields j H x H' lt (hG j H p) y)⟩
  · obtain rfl : j = n := by omega
    exact .inl ⟨w.stops H (hG j H p), hd H p⟩
end
/-- a dict of lists by whole numbers -/
def kvF (A : Nat → Addr) (ks : List Nat) : List (Key × V) := ks.map fun k => ((.inl ((k : Nat) : Int) : Key), V.ref (A k))
theorem kvF_some {A : Nat → Addr} {k : Nat} : ∀ {ks : List Nat}, k ∈ ks → valV (kvF A ks) (.inl ((k : Nat) : Int)) = some (.ref (A k))
  | [], h => by cases h
  | x :: r, h => by
    show valV ((.inl ((x : Nat) : Int), V.ref (A x)) :: kvF A r) (.inl ((k : Nat) : Int)) = _
    by_cases e : x = k
    · subst e; exact valV_pos rfl
    · rw [valV_neg (fun z => e (by have := Sum.inl.inj z; omega))]
      rcases List.mem_cons.mp h with z | z
      · exact absurd z.symm e
      · exact kvF_some z
theorem kvF_none {A : Nat → Addr} {k : Nat} : ∀ {ks : List Nat}, k ∉ ks → valV (kvF A ks) (.inl ((k : Nat) : Int)) = none
  | [], _ => rfl
  | x :: r, h => by
    show valV ((.inl ((x : Nat) : Int), V.ref (A x)) :: kvF A r) (.inl ((k : Nat) : Int)) = _
    rw [valV_neg (fun z => h (List.mem_cons.mpr (.inl (by have := Sum.inl.inj z; omega))))]
    exact kvF_none fun z => h (List.mem_cons_of_mem _ z)
theorem kvF_congr {A B : Nat → Addr} {ks : List Nat} (h : ∀ k ∈ ks, A k = B k) : kvF A ks = kvF B ks := List.map_congr_left fun k hk => by rw [h k hk]
theorem A2.of_maps {α β γ : Type} {R : β → γ → Prop} {f : α → β} {g : α → γ} : ∀ {l : List α}, (∀ x ∈ l, R (f x) (g x)) → A2 R (l.map f) (l.map g)
  | [], _ => .nil
  | x :: r, h => .cons (h x List.mem_cons_self) (A2.of_maps fun y hy => h y (List.mem_cons_of_mem _ hy))
/-- new lists in a new list -/
def NL (B H : Hp) (q : Addr) (rows : List (List Str)) : Prop := B q = none ∧ ∃ xs, H q = some (.lst xs) ∧ A2 (fun v r => ∃ a, v = .ref a ∧ B a = none ∧ a ≠ q ∧ SL H a r) xs rows
/-- joints among texts -/
def jnn (ts : List Str) (js : List (List Str)) : Prop := js.length ≤ 1000 ∧ ∀ j ∈ js, j.Nodup ∧ 2 ≤ j.length ∧ j.length ≤ 1000 ∧ ∀ t ∈ j, t ∈ ts
theorem other_one {j : List Str} (nd : j.Nodup) (h : 2 ≤ j.length) (t : Str) : ∃ u ∈ j, u ≠ t := by
  match j, nd, h with
  | a :: b :: r, nd, _ =>
    by_cases e : a = t
    · refine ⟨b, by simp, fun z => ?_⟩
      subst e; subst z
      simp at nd
    · exact ⟨a, by simp, e⟩
theorem idx_inj {ts : List Str} {t u : Str} (ht : t ∈ ts) (hu : u ∈ ts) (e : ts.idxOf t = ts.idxOf u) : t = u := by
  have a := ix_at ht
  have b := ix_at hu
  rw [e] at a
  exact Option.some.inj (a.symm.trans b)
theorem two_of {ts : List Str} {js : List (List Str)} (h : jnn ts js) : ∀ j ∈ ixs ts js, ∀ x ∈ j, x < ts.length ∧ ∃ y ∈ j, y ≠ x := by
  intro j hj x hx
  obtain ⟨j0, h0, rfl⟩ := List.mem_map.mp hj
  obtain ⟨t, ht, rfl⟩ := List.mem_map.mp hx
  obtain ⟨nd, l2, _, m⟩ := h.2 j0 h0
  obtain ⟨u, hu, ne⟩ := other_one nd l2 t
  exact ⟨List.idxOf_lt_length_of_mem (m t ht), _, List.mem_map_of_mem hu, fun z => ne (idx_inj (m u hu) (m t ht) z)⟩
theorem in_ixs {ts : List Str} {js : List (List Str)} (nd : ts.Nodup) (h : ∀ j ∈ js, ∀ t ∈ j, t ∈ ts) {i : Nat} {t : Str} (e : ts[i]? = some t) : (∃ j ∈ ixs ts js, i ∈ j) ↔ ∃ j ∈ js, t ∈ j := by
  constructor
  · rintro ⟨j, hj, hi⟩
    obtain ⟨j0, h0, rfl⟩ := List.mem_map.mp hj
    obtain ⟨u, hu, rfl⟩ := List.mem_map.mp hi
    rw [ix_at (h j0 h0 u hu)] at e
    obtain rfl := Option.some.inj e
    exact ⟨j0, h0, hu⟩
  · rintro ⟨j, hj, ht⟩
    exact ⟨_, List.mem_map_of_mem hj, List.mem_map.mpr ⟨t, ht, at_eq nd (ix_at (h j hj t ht)) e⟩⟩
theorem txs_many {p : Prt} {pk : List (Str × Prt)} (B : Bdp p pk) : (txs p.po pk).length ≤ 420 := by
  unfold txs
  rw [List.length_append]
  have h2 := txs20 _ B.lk
  have h3 := B.po
  have h4 := B.many
  omega
def sp_nodes_of (K : PySem.W.Frag) : Sp := fun vs H Q _ => ∃ (v : V) (d : Addr) (p : Prt) (pk : List (Str × Prt)), vs = [v, .ref d] ∧ PT K H v p ∧ Kn K H d pk ∧ Bdp p pk ∧ (txs p.po pk).Nodup ∧ jnn (txs p.po pk) p.jo ∧
  ∀ (H' : Hp) (q : Addr) (f : Nat → Nat), Same H H' → GP.In (ixs (txs p.po pk) p.jo) f → GP.Con (ixs (txs p.po pk) p.jo) f → NL H H' q (GP.rowsL (txs p.po pk) p.po f (txs p.po pk).length) → Q (.ref q) H'
theorem ok_nodes_of (T : Txt K mg) : FnOk P w K mg base CX0 2 T.nodes_of.a T.nodes_of.fd ["part", "before"] (sp_nodes_of K) := by
  refine T.nodes_of.F.ok sc_nodes_of (fun vs H Q E h => ?_) (fun cdv A outer s H vs Q E hr h => ?_)
  · obtain ⟨v, d, p, pk, rfl, _⟩ := h
    rfl
  · obtain ⟨v, d, p, pk, rfl, hp, hk, B, nd, jn, q⟩ := h
    refine ⟨_, (pss_cons (ps_set (i := 2) sc_nodes_of.nd rfl (.inl rfl) (pe_call (ok_port_texts T) (hr.mono (by decide)) (by rfl) T.port_texts.g T.port_texts.F.kp T.port_texts.b .nil pass0 (pa_cons (pv 0) (pa_cons (pv 1) pa_nil))))
      (pss_cons (ps_set (i := 3) sc_nodes_of.nd rfl (.inl rfl) (pe_ix ix_tup (pv 0) pe_int (fun _ _ => rfl)))
      (pss_cons (LD.ps_setDcO (i := 5) (own := [("joint", 9), ("text", 4)]) (vs1 := [4]) (wi1 := iList K _) (g := gName 9) rfl sc_nodes_of.nd rfl rfl (LD.sw_dict rfl rfl rfl (by decide +kernel)) (pi_list (pv 3)) (blkOk_by (N := ["part", "before", "texts", "joints", "text", "joined", "group", "found", "k", "joint"]) (sc := defScope s_nodes_of) (by decide +kernel)) (by decide) (fun _ _ _ _ _ => (pg_name (i := 9) sc_nodes_of.nd rfl (.inl rfl))) (fun _ _ _ _ _ => pts_nil) (fun _ _ _ _ _ => (pi_list (pv 9))) (fun _ _ _ _ _ => (pg_name (i := 4) sc_nodes_of.nd rfl (.inl rfl))) (fun _ _ _ _ _ => pts_nil) (fun _ _ _ _ _ => (pv 4)) (fun _ _ _ _ _ => pe_bl))
      (pss_cons (ps_set (i := 6) sc_nodes_of.nd rfl (.inl rfl) (pe_call (ok_groups T) (hr.mono (by decide)) (by rfl) T.groups.g T.groups.F.kp T.groups.b .nil pass0 (pa_cons (pv 2) (pa_cons (pv 3) pa_nil))))
      (pss_cons (ps_set (i := 7) sc_nodes_of.nd rfl (.inl rfl) pe_dnewK)
      (pss_cons (ps_for PassesOwn.never rfl (pi_enum (by rfl) T.m_enumerate (pa_cons (pv 2) pa_nil)) (pg_tup rfl (pgs_cons (pg_name (i := 8) sc_nodes_of.nd rfl (.inl rfl)) (pgs_cons (pg_name (i := 4) sc_nodes_of.nd rfl (.inl rfl)) pgs_nil)))
        (pss_one (ps_if (PW.pt (pw_or (pt_cmp (pc_din (r1 hr) (pv 4) (pv 5))) (pw_or1 (pt_cmpR op_ge (pv 8) (pe_callB call_len_seq (by rfl) T.m_len (by decide +kernel) (pa_cons (pe_ix ix_tup (pv 0) pe_int (fun _ _ => rfl)) pa_nil)) (nomark _)))))
          (pss_one (ps_expr (pe_bm PySem.F.plainAttrs_list PySem.F.slot_list_append PySem.F.type_list_append mt_append (pe_dsetd (pv 7) (pe_dget (r1 hr) (pv 6) (pv 4) (fun _ _ => rfl)) (pe_lst pa_nil) ⟨rfl, rfl, rfl, rfl⟩) (pa_cons (pv 4) pa_nil))))
          pss_nil)))
      (pss_one (ps_ret (pe_callTy (LD.call_listV rfl) (by rfl) T.m_list (by decide +kernel) (pa_cons (pe_bm0 PySem.F.plainAttrs_dict PySem.F.slot_dict_values PySem.F.type_dict_values LD.mt_dvals (pv 7)) pa_nil)))))))))), ?_⟩
    have lt := txs_many B
    obtain ⟨ljn, hjn⟩ := id jn
    have hp0 := hp
    obtain ⟨a, po, inn, pl, la, jo, rfl, h0, h1, h2, h3, h4, ⟨xs, hjo, hA⟩⟩ := hp0
    refine ⟨_, rfl, _, rfl, _, d, p, pk, rfl, hp, hk, B, fun H1 tx sm1 ntx htx => ?_⟩
    have hA1 := hA.mono fun _ _ z => z.same sm1
    have hjo1 := sm1 _ _ hjo
    refine ⟨_, rfl, a, _, _, _, rfl, rfl, Same.seqT sm1 h0, rfl, _, rfl, jo, rfl, ⟨xs, .of hjo1⟩, fun M nM => ?_⟩
    generalize ets : txs p.po pk = ts at *
    refine dc_out (walk_list (K := K) (a := jo) (xs := xs)) (fun i G => Same H1 G ∧ ∃ kv : List (Key × V), G M = some (.dK kv) ∧ kv.length ≤ 1000 * i ∧ ∀ t : Str, (valV kv (.inr t)).isSome = true ↔ ∃ j ∈ p.jo.take i, t ∈ j)
      ⟨same_upd nM, [], upd_same, Nat.le_refl _, fun t => ⟨fun h => (by cases h), fun ⟨t, h, _⟩ => by cases h⟩⟩ (fun _ _ z => .of (z.1 _ _ hjo1)) (fun i x G Gx hi z y => ?_) (fun G z => ?_)
    · obtain ⟨sm, kv, hM, lk, hk⟩ := z
      obtain ⟨rfl, hx⟩ := y
      obtain ⟨j0, hj0, ja, rfl, hja⟩ := hA1.get hx
      obtain ⟨jnd, jl2, jl, jm⟩ := hjn j0 (mem_at hj0)
      refine ⟨rfl, _, rfl, ja, rfl, ⟨_, .of (sm _ _ hja)⟩, ?_⟩
      refine dc_in (walk_list (K := K) (a := ja) (xs := j0.map V.str)) (fun k G => Same H1 G ∧ ∃ kv : List (Key × V), G M = some (.dK kv) ∧ kv.length ≤ 1000 * i + k ∧ ∀ t : Str, (valV kv (.inr t)).isSome = true ↔ (∃ j ∈ p.jo.take i, t ∈ j) ∨ t ∈ j0.take k)
        ⟨sm, kv, hM, lk, fun t => (hk t).trans ⟨.inl, fun z => z.elim id fun z => by cases z⟩⟩ (fun _ _ z => .of (z.1 _ _ hja)) (fun k x G2 Gy hk2 z y => ?_) (fun G z => ?_)
      · obtain ⟨sg, kv, hM, lk, hk⟩ := z
        obtain ⟨rfl, hx⟩ := y
        rw [List.length_map] at hk2
        have et : j0[k]? = some j0[k] := by simp [hk2]
        rw [List.getElem?_map, et] at hx
        obtain rfl := Option.some.inj hx
        have li : i < p.jo.length := (List.getElem?_eq_some_iff.mp hj0).1
        refine ⟨rfl, _, rfl, kv, .inr j0[k], rfl, hM, Nat.lt_of_le_of_lt (show kv.length ≤ 1001000 by omega) (by decide), same_over sg nM, _, upd_same, Nat.le_trans (put_len _ _ _) (by omega), fun t => ?_⟩
        rw [valV_put, take_snoc et]
        by_cases e : (Sum.inr t : Key) = .inr j0[k]
        · rw [if_pos e]
          exact ⟨fun _ => .inr (List.mem_append_right _ (List.mem_singleton.mpr (Sum.inr.inj e))), fun _ => rfl⟩
        · rw [if_neg e, hk t]
          refine or_congr Iff.rfl ⟨fun h => List.mem_append_left _ h, fun h => ?_⟩
          rcases List.mem_append.mp h with h | h
          · exact h
          · exact absurd (congrArg Sum.inr (List.mem_singleton.mp h)) e
      · obtain ⟨sg, kv, hM, lk, hk⟩ := z
        rw [List.length_map] at lk hk
        refine ⟨sg, kv, hM, by omega, fun t => (hk t).trans ?_⟩
        rw [List.take_length, take_snoc hj0]
        constructor
        · rintro (⟨j, hj, ht⟩ | ht)
          · exact ⟨j, List.mem_append_left _ hj, ht⟩
          · exact ⟨j0, List.mem_append_right _ (List.mem_singleton.mpr rfl), ht⟩
        · rintro ⟨j, hj, ht⟩
          rcases List.mem_append.mp hj with hj | hj
          · exact .inl ⟨j, hj, ht⟩
          · obtain rfl := List.mem_singleton.mp hj
            exact .inr ht
    · obtain ⟨sm, kv, hM, lk, hk⟩ := z
      rw [hA1.len, List.take_length] at hk
      have htx1 := sm _ _ htx
      have jin : ∀ j ∈ p.jo, ∀ t ∈ j, t ∈ ts := fun j hj => (hjn j hj).2.2.2
      refine ⟨_, rfl, _, rfl, tx, jo, ts, p.jo, xs, rfl, htx1, sm _ _ hjo1, hA1.mono (fun _ _ z => z.same sm), nd, by omega, ljn, fun j hj => ⟨fun z => by have := (hjn j hj).2.1; rw [z] at this; exact absurd this (by decide), (hjn j hj).2.2.1, jin j hj⟩, fun HB g f gv sm2 ng hg lg gd fI fC => fun D nD => ?_⟩
      have smG : Same G HB := sm2
      have htxB := sm2 _ _ htx1
      have hMB := sm2 _ _ hM
      have smB : Same H HB := sm1.trans (sm.trans sm2)
      have h0B := Same.seqT (K := K) smB h0
      have h1B := h1.same smB
      have tw := two_of jn
      have er : GP.rowsP ts (ixs ts p.jo) p.po.length f = GP.rowsL ts p.po f ts.length := GP.rows_eq fI fC ets.symm nd tw
      clear hM hjo1 htx1 hA1
      generalize eJ : ixs ts p.jo = J at *
      have kpi : ∀ i t, ts[i]? = some t → (GP.kp J p.po.length i = true ↔ (valV kv (.inr t)).isSome = true ∨ p.po.length ≤ i) := fun i t e => by
        rw [GP.kp_iff, hk t, ← eJ]
        exact or_congr (in_ixs nd jin e) Iff.rfl
      have s0 := same_upd nD (o := .dK [])
      refine ⟨.ref tx, rfl, tx, _, rfl, .of (s0 _ _ htxB), ?_⟩
      refine for_it (walk_enum (K := K) (a := tx) (xs := ts.map V.str)) (fun i σ G => Same HB G ∧ ∃ (v4 v8 : Option V) (A : Nat → Addr), σ = [some (.ref a), some (.ref d), some (.ref tx), some (.ref jo), v4, some (.ref M), some (.ref g), some (.ref D), v8, none] ∧ G D = some (.dK (kvF A (GP.lead J p.po.length f i))) ∧
          (∀ k ∈ GP.lead J p.po.length f i, HB (A k) = none ∧ A k ≠ D ∧ G (A k) = some (.lst ((GP.cls ts f k i).map V.str))) ∧ ∀ k ∈ GP.lead J p.po.length f i, ∀ l ∈ GP.lead J p.po.length f i, A k = A l → k = l)
        ⟨s0, none, none, fun _ => 0, rfl, upd_same, (fun _ z => by cases z), (fun _ z => by cases z)⟩ (fun _ _ _ _ z => .of (z.1 _ _ htxB)) (fun i x σ G Gx hi pv y => ?_) (fun σ G pv => ?_)
      · obtain ⟨sg, v4, v8, A, rfl, hD, hL, inj⟩ := pv
        obtain ⟨T', i', x', rfl, nT, rfl, e1, hx⟩ := y
        obtain rfl := Option.some.inj e1
        rw [List.length_map] at hi
        have et : ts[i]? = some ts[i] := by simp [hi]
        have hx : (ts.map V.str)[i]? = some x' := hx
        rw [List.getElem?_map, et] at hx
        obtain rfl := Option.some.inj hx
        have sT := same_upd nT (o := .tup [.int (i : Nat), .str ts[i]])
        have sgT := sg.trans sT
        have hDT := sT _ _ hD
        have hLT : ∀ k ∈ GP.lead J p.po.length f i, HB (A k) = none ∧ A k ≠ D ∧ upd G T' (.tup [.int (i : Nat), .str ts[i]]) (A k) = some (.lst ((GP.cls ts f k i).map V.str)) := fun k hk => ⟨(hL k hk).1, (hL k hk).2.1, sT _ _ (hL k hk).2.2⟩
        refine ⟨T', _, rfl, .of upd_same, rfl, _, _, rfl, _, _, rfl, rfl, ?_⟩
        have hMT := sgT _ _ hMB
        have e0 := gd i _ et
        have gT := sgT _ _ hg
        generalize upd G T' _ = GT at sT sgT hDT hLT hMT gT
        refine ⟨_, rfl, _, rfl, M, _, rfl, DGet.k (k := Sum.inr ts[i]) hMT, _, rfl, ?_⟩
        refine two (A := GP.kp J p.po.length i = true → _) (fun hk => ?_) (fun hT => ite2 (fun h => iteT (hT ((kpi i _ et).mpr (.inl h)))) (fun h => ⟨_, rfl, _, rfl, a, _, _, _, rfl, rfl, Same.seqT sgT h0B, rfl, po, _, rfl, .inl (.of (sgT _ _ h1B)), _, _, rfl, rfl, _, rfl, ite2 (fun h2 => hT ((kpi i _ et).mpr (.inr ?_))) (fun h2 => ?_)⟩))
        · refine ⟨.ref D, rfl, D, rfl, .inl ⟨_, .of hDT⟩, _, rfl, _, rfl, g, _, rfl, dget gT e0, by show 0 ≤ sizeLine; decide, fun L nL => ?_⟩
          have sL := same_upd nL (o := .lst [])
          have sgL := sgT.trans sL
          have hDL := sL _ _ hDT
          have hLL : ∀ k ∈ GP.lead J p.po.length f i, HB (A k) = none ∧ A k ≠ D ∧ upd GT L (.lst []) (A k) = some (.lst ((GP.cls ts f k i).map V.str)) := fun k hk => ⟨(hLT k hk).1, (hLT k hk).2.1, sL _ _ (hLT k hk).2.2⟩
          have hLn : upd GT L (.lst []) L = some (.lst []) := upd_same
          have LD' : L ≠ D := fun z => by rw [z, hDT] at nL; cases nL
          have LA : ∀ k ∈ GP.lead J p.po.length f i, L ≠ A k := fun k hk z => by rw [z, (hLT k hk).2.2] at nL; cases nL
          have nLB := same_none sgT nL
          generalize upd GT L _ = GL at sL sgL hDL hLL hLn
          have ll := GP.lead_len J p.po.length f i
          refine ⟨_, .inl ((f i : Nat) : Int), hDL, rfl, ?_, fun v hv => ?_, fun hn => ?_⟩
          · unfold kvF
            rw [List.length_map]
            exact small' (by omega)
          · have mf : f i ∈ GP.lead J p.po.length f i := Classical.byContradiction fun z => by rw [kvF_none z] at hv; cases hv
            rw [kvF_some mf] at hv
            obtain rfl := Option.some.inj hv
            obtain ⟨a1, a2, a3⟩ := hLL _ mf
            have lf := (GP.lead_mem.mp mf).1
            have cl := GP.cls_len ts f (f i) i
            refine ⟨.inl ⟨rfl, _, .of a3⟩, _, rfl, A (f i), _, _, rfl, rfl, a3, small' (by rw [List.length_map]; omega), ?_⟩
            rw [GP.lead_out (.inl (by omega))]
            refine ⟨same_over sgL a1, _, _, A, rfl, by rw [upd_ne (fun z => a2 z.symm)]; exact hDL, fun k hk => ?_, inj⟩
            obtain ⟨b1, b2, b3⟩ := hLL k hk
            refine ⟨b1, b2, ?_⟩
            by_cases e : k = f i
            · subst e
              rw [upd_same, GP.cls_in rfl et, List.map_append]; rfl
            · rw [upd_ne (fun z => e (inj _ hk _ mf z)), GP.cls_out fun z => e z.symm]
              exact b3
          · have mf : f i ∉ GP.lead J p.po.length f i := fun z => by rw [kvF_some z] at hn; cases hn
            have fi : f i = i := by
              have le := fI.le i
              rcases Nat.lt_or_ge (f i) i with z | z
              · exact absurd (GP.lead_mem.mpr ⟨z, GP.ff fI fC i, by rw [← GP.kp_lead fI fC]; exact hk⟩) mf
              · omega
            have mi : i ∉ GP.lead J p.po.length f i := fun z => Nat.lt_irrefl _ (GP.lead_mem.mp z).1
            refine ⟨.inl ⟨rfl, _, .of (by rw [upd_ne LD']; exact hLn)⟩, _, rfl, L, _, _, rfl, rfl, by rw [upd_ne LD']; exact hLn, by decide, ?_⟩
            rw [GP.lead_in fi hk, putK_new _ hn, fi]
            obtain ⟨A', ei, ea⟩ : ∃ A' : Nat → Addr, A' i = L ∧ ∀ k, k ≠ i → A' k = A k := ⟨fun k => if k = i then L else A k, if_pos rfl, fun k h => if_neg h⟩
            have ne : ∀ k ∈ GP.lead J p.po.length f i, k ≠ i := fun k hk z => mi (z ▸ hk)
            refine ⟨same_over (same_over sgL nD) nLB, _, _, A', rfl, ?_, fun k hk => ?_, fun k hk l hl e => ?_⟩
            · rw [upd_ne (fun z => LD' z.symm), upd_same]
              unfold kvF
              rw [List.map_append, List.map_singleton, ei]
              congr 3
              exact List.map_congr_left fun k hk => by rw [ea k (ne k hk)]
            · rcases List.mem_append.mp hk with hk | hk
              · obtain ⟨b1, b2, b3⟩ := hLL k hk
                rw [ea k (ne k hk)]
                refine ⟨b1, b2, ?_⟩
                rw [upd_ne (fun z => LA k hk z.symm), upd_ne b2, GP.cls_out fun z => ne k hk (by rw [← z, fi])]
                exact b3
              · rw [List.mem_singleton.mp hk, ei]
                refine ⟨nLB, LD', ?_⟩
                rw [upd_same, GP.cls_in fi et, GP.cls_none fun x hx z => ?_]
                · rfl
                · have := fI.le x
                  omega
            · rcases List.mem_append.mp hk with hk | hk <;> rcases List.mem_append.mp hl with hl | hl
              · rw [ea k (ne k hk), ea l (ne l hl)] at e
                exact inj k hk l hl e
              · rw [List.mem_singleton.mp hl, ea k (ne k hk), ei] at e
                exact absurd e.symm (LA k hk)
              · rw [List.mem_singleton.mp hk, ea l (ne l hl), ei] at e
                exact absurd e (LA l hl)
              · rw [List.mem_singleton.mp hk, List.mem_singleton.mp hl]
        · have := of_decide_eq_true h2
          rw [List.length_map] at this
          omega
        · have nk : GP.kp J p.po.length i = false := by
            rw [← Bool.not_eq_true, kpi i _ et]
            rintro (z | z)
            · exact h z
            · exact h2 (decide_eq_true (by rw [List.length_map]; omega))
          rw [GP.lead_out (.inr nk)]
          refine ⟨sgT, _, _, A, rfl, hDT, fun k hk => ?_, inj⟩
          obtain ⟨lk, fk, kk⟩ := GP.lead_mem.mp hk
          rw [GP.cls_out fun z => by rw [GP.kp_lead fI fC, z, kk] at nk; cases nk]
          exact hLT k hk
      · obtain ⟨sg, v4, v8, A, rfl, hD, hL, inj⟩ := pv
        rw [List.length_map] at hD hL
        refine ⟨.ref D, rfl, .inr (.inr (.inl ⟨rfl, .inl ⟨_, hD⟩⟩)), D, _, rfl, rfl, hD, fun pV nV => ?_⟩
        have sV := same_upd nV (o := viewO "dict_values" pV D)
        refine ⟨pV, D, _, rfl, upd_same, sV _ _ hD, fun l nl => ?_⟩
        have sl := same_upd nl (o := .lst ((kvF A (GP.lead J p.po.length f ts.length)).map (·.2)))
        have sH : Same H _ := smB.trans (sg.trans (sV.trans sl))
        have e : (kvF A (GP.lead J p.po.length f ts.length)).map (·.2) = (GP.lead J p.po.length f ts.length).map fun k => V.ref (A k) := by
          unfold kvF
          rw [List.map_map]; rfl
        refine q _ l f sH fI fC ⟨same_none (smB.trans (sg.trans sV)) nl, (GP.lead J p.po.length f ts.length).map fun k => V.ref (A k), by rw [upd_same, e], ?_⟩
        rw [← er]
        unfold GP.rowsP
        refine A2.of_maps fun k hk => ?_
        obtain ⟨b1, b2, b3⟩ := hL k hk
        have b4 := sV _ _ b3
        exact ⟨A k, rfl, same_none smB b1, (fun z => by rw [← z, b4] at nl; cases nl), sl _ _ b4⟩
end
end K08
-- X8
namespace K08
open PySem PySem.Spec PyProof.Rows L2
section
variable {P : Program} {w : World} {K : PySem.W.Frag} {mg : Str → Option Value} {base : Heap}
/-! ### the nodes of a part -/
structure Pok (p : Prt) (pk : List (Str × Prt)) : Prop where
  B : Bdp p pk
  nd : (txs p.po pk).Nodup
  jn : jnn (txs p.po pk) p.jo
theorem NL.old {B B1 H : Hp} {q : Addr} {rows : List (List Str)} (s : Same B B1) (h : NL B1 H q rows) : NL B H q rows := by
  obtain ⟨n, xs, hq, hA⟩ := h
  exact ⟨same_none s n, xs, hq, hA.mono fun _ _ ⟨a, e, na, ne, z⟩ => ⟨a, e, same_none s na, ne, z⟩⟩
def sp_nodes (K : PySem.W.Frag) (C : Addr) : Sp := fun vs H Q E => ∃ (b : Addr) (nm : Str) (xs : List V) (bk : List Prt), vs = [.ref b, .str nm] ∧ H b = some (.lst xs) ∧ A2 (PT K H) xs bk ∧ bk.length ≤ 1000 ∧ (bk.map (·.nm)).Nodup ∧
  ((∀ p ∈ bk, p.nm ≠ nm) → ∀ H1, Same H H1 → ∀ dd, H1 dd = none → E (.ref C) (some dd) (upd H1 dd (.xd [("at", .int 0)]))) ∧
  (∀ p ∈ bk, p.nm = nm → ∃ pk : List (Str × Prt), (∀ x ∈ pk, x.2 ∈ bk) ∧ Pok p pk ∧ ∀ (H' : Hp) (q : Addr) (f : Nat → Nat), Same H H' → GP.In (ixs (txs p.po pk) p.jo) f → GP.Con (ixs (txs p.po pk) p.jo) f → NL H H' q (GP.rowsL (txs p.po pk) p.po f (txs p.po pk).length) → Q (.ref q) H')
theorem ok_nodes (T : Txt K mg) (X : Errs K mg) : FnOk P w K mg base (L2.CX P w) 5 T.nodes.a T.nodes.fd ["book", "name"] (sp_nodes K X.NoPart.C) := by
  refine T.nodes.F.okX sc_nodes (fun vs H Q E h => ?_) (fun cdv A outer s H vs Q E hr h => ?_)
  · obtain ⟨b, nm, xs, bk, rfl, _⟩ := h
    rfl
  · obtain ⟨b, nm, xs, bk, rfl, hb, hA, lb, nd, qE, qT⟩ := h
    refine ⟨_, (pss_cons (ps_set (i := 2) sc_nodes.nd rfl (.inl rfl) (pe_call (ok_by_name T X) (hr.mono (by decide)) (by rfl) T.by_name.g T.by_name.F.kp T.by_name.b .nil (passes_call (takes_of rfl rfl rfl rfl) fun _ _ _ _ h => h) (pa_cons (pv 0) (pa_cons (pv 1) pa_nil))))
      (pss_one (ps_ret (pe_call (ok_nodes_of T) (hr.mono (by decide)) (by rfl) T.nodes_of.g T.nodes_of.F.kp T.nodes_of.b .nil pass0 (pa_cons (pe_dget (r1 hr) (pv 2) (pv 1) (fun _ _ => rfl)) (pa_cons (pv 2) pa_nil)))))), ?_⟩
    refine ⟨_, rfl, _, rfl, b, nm, xs, bk, rfl, hb, hA, lb, nd, qE, fun hex H1 d sm nd1 hd => ?_⟩
    obtain ⟨p, hp, rfl⟩ := hex
    obtain ⟨pk, hin, ok, q⟩ := qT p hp rfl
    have hA1 := hA.mono fun _ _ z => z.same sm
    have look : ∀ x ∈ bk, ∃ v, valV (kvB bk xs) (.inr x.nm) = some v ∧ PT K H1 v x := fun x hx => by
      obtain ⟨i, hi, rfl⟩ := List.getElem_of_mem hx
      have e1 : bk[i]? = some bk[i] := by simp [hi]
      have el := hA.len
      have e2 : xs[i]? = some (xs[i]'(by omega)) := by simp [show i < xs.length by omega]
      obtain ⟨p', hp', z⟩ := hA1.get e2
      rw [e1] at hp'
      obtain rfl := Option.some.inj hp'
      exact ⟨_, kvB_some nd e1 e2, z⟩
    obtain ⟨v, hv, hpt⟩ := look p hp
    refine ⟨_, rfl, _, rfl, d, _, rfl, dget hd hv, _, rfl, v, d, p, pk, rfl, hpt, ⟨_, hd, fun x hx => look x.2 (hin x hx)⟩, ok.B, ok.nd, ok.jn, fun H' q' f s' hi hc hn => ?_⟩
    exact q H' q' f (sm.trans s') hi hc (hn.old sm)
end
end K08
-- T8
namespace K08
open PySem PySem.Spec PyProof.Rows L2
section
variable {P : Program} {w : World} {K : PySem.W.Frag} {mg : Str → Option Value} {base : Heap}
/-! ### the texts, as they are asked -/
def blk (x : Str × Prt) : List Str := x.2.po.map fun q => x.1 ++ ("." : Str) ++ q
theorem txs_snoc {po : List Str} {pk : List (Str × Prt)} {i : Nat} {x : Str × Prt} (h : pk[i]? = some x) : txs po (pk.take (i + 1)) = txs po (pk.take i) ++ blk x := by
  unfold txs blk
  rw [take_snoc h, List.flatMap_append, List.flatMap_singleton, List.append_assoc]
theorem nm_eq {bk : List Prt} (nd : (bk.map (·.nm)).Nodup) {i j : Nat} {p q : Prt} (hi : bk[i]? = some p) (hj : bk[j]? = some q) (e : p.nm = q.nm) : i = j := by
  obtain ⟨li, ei⟩ := List.getElem?_eq_some_iff.mp hi
  obtain ⟨lj, ej⟩ := List.getElem?_eq_some_iff.mp hj
  refine (List.getElem_inj (h₀ := by rw [List.length_map]; exact li) (h₁ := by rw [List.length_map]; exact lj) nd).mp ?_
  rw [List.getElem_map, List.getElem_map, ei, ej, e]
theorem eqv_str (a b : Str) : PyData.eqv (.str a) (.str b) = decide (a = b) := by
  rw [PyData.eqv]
  rfl
theorem str_dp {s : Str} : (PyData.str s).depth ≤ 64 := by
  unfold PyData.depth
  decide
def sp_law_texts (K : PySem.W.Frag) : Sp := fun vs H Q _ => ∃ (b : Addr) (v : V) (bk : List Prt) (p : Prt) (pk : List (Str × Prt)), vs = [.ref b, v] ∧ BK K H b bk ∧ PT K H v p ∧ Bdp p pk ∧ (bk.map (·.nm)).Nodup ∧ (∀ x ∈ pk, x.2 ∈ bk) ∧ (∀ x ∈ bk, GS 20 x.nm) ∧
  ∀ (H' : Hp) (q : Addr), Same H H' → H q = none → SL H' q (txs p.po pk) → Q (.ref q) H'
theorem ok_law_texts (T : Txt K mg) : FnOk P w K mg base CX0 2 T.law_texts.a T.law_texts.fd ["book", "part"] (sp_law_texts K) := by
  refine T.law_texts.F.ok sc_law_texts (fun vs H Q E h => ?_) (fun cdv A outer s H vs Q E hr h => ?_)
  · obtain ⟨b, v, bk, p, pk, rfl, _⟩ := h
    rfl
  · obtain ⟨b, v, bk, p, pk, rfl, ⟨xs, hb, hA⟩, ⟨a, po, inn, pl, la, jo, rfl, h0, h1, h2, ⟨ys, hy, hP⟩, _⟩, B, nd, hin, gn, q⟩ := h
    refine ⟨_, (pss_cons (ps_set (i := 2) sc_law_texts.nd rfl (.inl rfl) (pe_callTy call_list_of (by rfl) T.m_list (by decide +kernel) (pa_cons (pe_ix ix_tup (pv 1) pe_int (fun _ _ => rfl)) pa_nil)))
      (pss_cons (ps_for PassesOwn.never rfl (pi_list (pe_ix ix_tup (pv 1) pe_int (fun _ _ => rfl))) (pg_tup rfl (pgs_cons (pg_name (i := 3) sc_law_texts.nd rfl (.inr rfl)) (pgs_cons (pg_name (i := 4) sc_law_texts.nd rfl (.inl rfl)) pgs_nil)))
        (pss_one (ps_for PassesOwn.never rfl (pi_list (pv 0)) (pg_name (i := 5) sc_law_texts.nd rfl (.inl rfl))
          (pss_one (ps_if (pt_cmpR (op_eqD hr.units) (pe_ix ix_tup (pv 5) pe_int (fun _ _ => rfl)) (pv 4) (nomark _))
            (pss_one (ps_set (i := 2) sc_law_texts.nd rfl (.inl rfl) (pe_op op_cat (pv 2) (pe_lc (own := [("port", 6)]) rfl sc_law_texts.nd (pi_list (pe_ix ix_tup (pv 5) pe_int (fun _ _ => rfl))) (blkOk_by (N := ["book", "part", "texts", "name", "kind", "other", "port"]) (sc := defScope s_law_texts) (by decide +kernel)) (fun _ _ _ _ _ => (pg_name (i := 6) sc_law_texts.nd rfl (.inl rfl))) (fun _ _ _ _ _ => pts_nil) (fun _ _ _ _ _ => (pe_op op_add_str (pe_op op_add_str (pv 3) pe_str) (pv 6)))))))
            pss_nil)))))
      (pss_one (ps_ret (pv 2))))), ?_⟩
    rw [B.pl] at hP
    refine ⟨_, rfl, a, _, _, _, rfl, rfl, h0, rfl, po, _, rfl, .inl (.of h1), fun tx ntx => ?_⟩
    have s1 := same_upd ntx (o := .lst (p.po.map V.str))
    refine ⟨_, rfl, a, _, _, _, rfl, rfl, Same.seqT s1 h0, rfl, pl, rfl, ⟨ys, .of (s1 _ _ hy)⟩, ?_⟩
    refine for_it (walk_list (K := K) (a := pl) (xs := ys)) (fun i σ G => Same H G ∧ ∃ (v3 v4 v5 : Option V) (tx : Addr), σ = [some (.ref b), some (.ref a), some (.ref tx), v3, v4, v5, none] ∧ H tx = none ∧ SL G tx (txs p.po (pk.take i)))
      ⟨s1, none, none, none, tx, rfl, ntx, by unfold txs; rw [List.take_zero, List.flatMap_nil, List.append_nil]; exact upd_same⟩ (fun _ _ _ _ z => .of (z.1 _ _ hy)) (fun i x σ G Gx hi pv y => ?_) (fun σ G pv => ?_)
    · obtain ⟨sm, v3, v4, v5, tx, rfl, ntx, htx⟩ := pv
      obtain ⟨rfl, hx⟩ := y
      obtain ⟨pr, hpr, t, rfl, hq⟩ := hP.get hx
      rw [List.getElem?_map] at hpr
      cases ek : pk[i]? with
      | none => rw [ek] at hpr; cases hpr
      | some kx =>
        rw [ek] at hpr
        obtain rfl := Option.some.inj hpr
        have mk := mem_at ek
        obtain ⟨i0, hi0, ei0⟩ := List.getElem_of_mem (hin kx mk)
        have e0 : bk[i0]? = some kx.2 := by rw [← ei0]; simp [hi0]
        refine ⟨t, _, rfl, Same.seqT sm hq, rfl, _, _, rfl, _, _, rfl, rfl, _, rfl, b, rfl, ⟨xs, .of (sm _ _ hb)⟩, ?_⟩
        refine for_it (walk_list (K := K) (a := b) (xs := xs)) (fun j σ G => Same H G ∧ ∃ (v5 : Option V) (tx : Addr), σ = [some (.ref b), some (.ref a), some (.ref tx), some (.str kx.1), some (.str kx.2.nm), v5, none] ∧ H tx = none ∧ SL G tx (txs p.po (pk.take i) ++ if i0 < j then blk kx else []))
          ⟨sm, v5, tx, rfl, ntx, by rw [if_neg (Nat.not_lt_zero _), List.append_nil]; exact htx⟩ (fun _ _ _ _ z => .of (z.1 _ _ hb)) (fun j x σ G Gx hj pv y => ?_) (fun σ G pv => ?_)
        · obtain ⟨sg, v5, tx, rfl, ntx, htx⟩ := pv
          obtain ⟨rfl, hx⟩ := y
          obtain ⟨ot, hot, oa, opo, oinn, opl, ola, ojo, rfl, g0, g1, _⟩ := hA.get hx
          have gs := gn _ (mem_at hot)
          have gk := gn _ (mem_at e0)
          refine ⟨_, rfl, oa, _, _, _, rfl, rfl, Same.seqT sg g0, rfl, _, rfl, .str ot.nm, .str kx.2.nm, .str _, .str _, shaped_of (str_ok gs) str_dp, shaped_of (str_ok gk) str_dp, _, rfl, ?_⟩
          by_cases e : ot.nm = kx.2.nm
          · rw [eqv_str, decide_eq_true e]
            obtain rfl := nm_eq nd hot e0 e
            rw [hot] at e0
            obtain rfl := Option.some.inj e0
            refine iteT ⟨_, rfl, _, rfl, oa, _, _, _, rfl, rfl, Same.seqT sg g0, rfl, opo, rfl, ⟨_, .of (sg _ _ g1)⟩, fun D nD => ?_⟩
            have gk' : ∀ y ∈ kx.2.po, GS 20 y := B.gk kx mk
            have g1n := (B.gn kx mk).1
            refine lc_rel (xs := kx.2.po.map V.str) (fun j y => ∀ q, kx.2.po[j]? = some q → y = .str (kx.1 ++ ("." : Str) ++ q)) nD (.of (sg _ _ g1)) (small' (by rw [List.length_map]; have := B.lk kx mk; omega)) (fun j x G8 Q' hx sm8 hq => ?_) (fun G8 zs sm8 hD hn hr => ?_)
            · rw [List.getElem?_map] at hx
              cases ej : kx.2.po[j]? with
              | none => rw [ej] at hx; cases hx
              | some qn =>
                rw [ej] at hx
                obtain rfl := Option.some.inj hx
                have g2 := (gk' qn (mem_at ej)).1
                have g3 : (kx.1 ++ ("." : Str)).length ≤ 21 := by rw [Str.length_append]; show _ + 1 ≤ 21; omega
                refine ⟨_, rfl, _, _, rfl, rfl, small (show kx.1.length + 1 ≤ 60000 by omega), _, rfl, _, _, rfl, rfl, small (by omega), hq _ fun q hq => ?_⟩
                rw [ej] at hq
                obtain rfl := Option.some.inj hq
                rfl
            · have ez : zs = (blk kx).map V.str := by
                refine List.ext_getElem? fun j => ?_
                rw [List.length_map] at hn
                unfold blk
                rw [List.map_map, List.getElem?_map]
                rcases Nat.lt_or_ge j kx.2.po.length with hj | hj
                · obtain ⟨y, h⟩ : ∃ y, zs[j]? = some y := ⟨zs[j]'(by omega), by simp [show j < zs.length by omega]⟩
                  have e : kx.2.po[j]? = some kx.2.po[j] := by simp [hj]
                  rw [h, e, hr j y h _ e]; rfl
                · rw [List.getElem?_eq_none (by omega), List.getElem?_eq_none hj]; rfl
              subst ez
              rw [if_neg (Nat.lt_irrefl _), List.append_nil] at htx
              refine ⟨tx, D, _, _, rfl, rfl, sm8 _ _ htx, hD, ?_, fun z nz => ?_⟩
              · have h1 := txs_many B
                have h2 : (txs p.po (pk.take (i + 1))).length ≤ (txs p.po pk).length := by
                  unfold txs
                  rw [List.length_append, List.length_append]
                  have : (pk.flatMap fun x => x.2.po.map fun q => x.1 ++ ("." : Str) ++ q) = ((pk.take (i + 1)).flatMap fun x => x.2.po.map fun q => x.1 ++ ("." : Str) ++ q) ++ (pk.drop (i + 1)).flatMap fun x => x.2.po.map fun q => x.1 ++ ("." : Str) ++ q := by rw [← List.flatMap_append, List.take_append_drop]
                  rw [this, List.length_append]
                  omega
                rw [txs_snoc ek, List.length_append] at h2
                rw [List.length_map, List.length_map]
                exact small (by omega)
              · have s9 := sg.trans (sm8.trans (same_upd nz (o := .lst ((txs p.po (pk.take i)).map V.str ++ (blk kx).map V.str))))
                refine ⟨s9, _, z, rfl, same_none (sg.trans sm8) nz, ?_⟩
                show upd G8 z _ z = _
                rw [upd_same, if_pos (Nat.lt_succ_self _), List.map_append]
          · rw [eqv_str, decide_eq_false e]
            refine iteF ⟨sg, _, tx, rfl, ntx, ?_⟩
            have : j ≠ i0 := fun z => e (by subst z; rw [hot] at e0; rw [Option.some.inj e0])
            by_cases z : i0 < j
            · rw [if_pos z] at htx
              rw [if_pos (by omega)]
              exact htx
            · rw [if_neg z] at htx
              rw [if_neg (by omega)]
              exact htx
        · obtain ⟨sg, v5, tx, rfl, ntx, htx⟩ := pv
          rw [if_pos (by have := hA.len; omega), ← txs_snoc ek] at htx
          exact ⟨sg, _, _, _, tx, rfl, ntx, htx⟩
    · obtain ⟨sm, v3, v4, v5, tx, rfl, ntx, htx⟩ := pv
      have el := hP.len
      rw [List.length_map] at el
      rw [List.take_of_length_le (by omega)] at htx
      exact ⟨_, rfl, q G tx sm ntx htx⟩
/-! list.index within a comprehension -/
theorem pe_idxC {X : Cx} {K : PySem.W.Frag} {o e : Expr} {es : List Expr} {to : TE} {t : TA} {apos cpos : Pos} (hK : X.K = K) (ho : PE X o to) (ha : PA X (e :: es) t)
    (hbase : attributeBase o "index" X.env (eval o X.env) = eval o X.env := by rfl)
    (hfew : ((backTo cpos (starEach (e :: es) X.env)).all (fun x => !x.1) && (backToKw cpos (keywordEach [] X.env)).all (fun x => x.1.isSome)
      && decide ((e :: es).length + ([] : List Keyword).length + (if ([] : List Keyword).isEmpty then 0 else 1) < 30)) = true := by rfl)
    (hline : (apos.endLine == cpos.line) = true := by rfl) (hs : starEach (e :: es) X.env = (false, eval e X.env) :: starEach es X.env := by rfl) (hplain : (backTo cpos (starEach es X.env)).any (·.1) = false := by rfl) :
    PE X (.Call (.Attribute o "index" apos) (e :: es) [] cpos) (tBM K "list" (rIndex K) to t) := by
  subst hK
  exact pe_bm PySem.F.plainAttrs_list PySem.F.slot_list_index PySem.F.type_list_index mt_index ho ha hbase hfew hline hs hplain
end
end K08
-- L8
namespace K08
open PySem PySem.Spec PyProof.Rows L2
section
variable {P : Program} {w : World} {K : PySem.W.Frag} {mg : Str → Option Value} {base : Heap}
/-! ### the nodes, as they are asked -/
def lbv (n : Nat) (L : Nat → Nat) : List V := (List.range n).map fun x => V.int (L x : Nat)
theorem lbv_len (n : Nat) (L : Nat → Nat) : (lbv n L).length = n := by unfold lbv; rw [List.length_map, List.length_range]
theorem lbv_get {n x : Nat} (L : Nat → Nat) (h : x < n) : (lbv n L)[x]? = some (.int (L x : Nat)) := by
  unfold lbv
  rw [List.getElem?_map, List.getElem?_range h]; rfl
theorem lbv_set {n x : Nat} (L : Nat → Nat) (v : Nat) : (lbv n L).set x (.int (v : Nat)) = lbv n fun y => if y = x then v else L y := by
  refine List.ext_getElem? fun i => ?_
  rcases Nat.lt_or_ge i n with h | h
  · rw [List.getElem?_set, lbv_get _ h, lbv_get _ h, lbv_len]
    by_cases e : x = i
    · subst e; rw [if_pos rfl, if_pos h, if_pos rfl]
    · rw [if_neg e, if_neg fun z => e z.symm]
  · rw [List.getElem?_eq_none (by rw [List.length_set, lbv_len]; exact h), List.getElem?_eq_none (by rw [lbv_len]; exact h)]
theorem lbv_congr {n : Nat} {L M : Nat → Nat} (h : ∀ x, L x = M x) : lbv n L = lbv n M := by rw [show L = M from funext h]
theorem ixN_at {n j : Nat} (h : j < n) : ixN n (j : Int) = some j := by simp [ixN, h]
theorem ix_no {ts : List Str} {t : Str} (nd : ts.Nodup) (h : t ∈ ts) (m : Nat) (z : V) (hm : m < ts.idxOf t) (hz : (ts.map V.str)[m]? = some z) : eqV z (.str t) = false := by
  rw [List.getElem?_map] at hz
  cases e : ts[m]? with
  | none => rw [e] at hz; cases hz
  | some u =>
    rw [e] at hz
    obtain rfl := Option.some.inj hz
    have : u ≠ t := fun x => by
      subst x
      have := at_eq nd e (ix_at h)
      omega
    show decide (u = t) = false
    exact decide_eq_false this
theorem ix_yes (t : Str) : eqV (.str t) (.str t) = true := by
  show decide (t = t) = true
  exact decide_eq_true rfl
theorem ix_str {ts : List Str} {t : Str} (h : t ∈ ts) : (ts.map V.str)[ts.idxOf t]? = some (.str t) := by
  rw [List.getElem?_map, ix_at h]; rfl
def sp_law_nodes (K : PySem.W.Frag) : Sp := fun vs H Q _ => ∃ (b : Addr) (v : V) (bk : List Prt) (p : Prt) (pk : List (Str × Prt)), vs = [.ref b, v] ∧ BK K H b bk ∧ PT K H v p ∧ Pok p pk ∧ (bk.map (·.nm)).Nodup ∧ (∀ x ∈ pk, x.2 ∈ bk) ∧ (∀ x ∈ bk, GS 20 x.nm) ∧
  ∀ (H' : Hp) (q : Addr) (f : Nat → Nat), Same H H' → GP.In (ixs (txs p.po pk) p.jo) f → GP.Con (ixs (txs p.po pk) p.jo) f → JoL H' q (GP.rowsL (txs p.po pk) p.po f (txs p.po pk).length) → Q (.ref q) H'
theorem ok_law_nodes (T : Txt K mg) : FnOk P w K mg base CX0 3 T.law_nodes.a T.law_nodes.fd ["book", "part"] (sp_law_nodes K) := by
  refine T.law_nodes.F.ok sc_law_nodes (fun vs H Q E h => ?_) (fun cdv A outer s H vs Q E hr h => ?_)
  · obtain ⟨b, v, bk, p, pk, rfl, _⟩ := h
    rfl
  · obtain ⟨b, v, bk, p, pk, rfl, hb, hp, ok, nd, hin, gn, q⟩ := h
    refine ⟨_, (pss_cons (ps_set (i := 2) sc_law_nodes.nd rfl (.inr rfl) (pe_call (ok_law_texts T) (hr.mono (by decide)) (by rfl) T.law_texts.g T.law_texts.F.kp T.law_texts.b .nil pass0 (pa_cons (pv 0) (pa_cons (pv 1) pa_nil))))
      (pss_cons (ps_set (i := 3) sc_law_nodes.nd rfl (.inr rfl) (pe_listRg rfl (by rfl) T.m_list (prg_1 (by rfl) T.m_range (pe_callB call_len_seq (by rfl) T.m_len (by decide +kernel) (pa_cons (pv 2) pa_nil)))))
      (pss_cons (ps_for PassesOwn.never rfl (pi_range1 (by rfl) T.m_range (pa_cons (pe_callB call_len_seq (by rfl) T.m_len (by decide +kernel) (pa_cons (pe_ix ix_tup (pv 1) pe_int (fun _ _ => rfl)) pa_nil)) pa_nil)) (pg_name (i := 4) sc_law_nodes.nd rfl (.inl rfl))
        (pss_one (ps_for PassesOwn.never rfl (pi_list (pe_ix ix_tup (pv 1) pe_int (fun _ _ => rfl))) (pg_name (i := 5) sc_law_nodes.nd rfl (.inl rfl))
          (pss_cons (ps_set (i := 7) sc_law_nodes.nd rfl (.inl rfl) (pe_callB (cr_min rfl) (by rfl) T.m_min (by decide +kernel) (pa_cons (pe_lc (own := [("text", 6)]) rfl sc_law_nodes.nd (pi_list (pv 5)) (blkOk_by (N := ["book", "part", "texts", "labels", "turn", "joint", "text", "low", "rows", "k", "node", "i"]) (sc := defScope s_law_nodes) (by decide +kernel)) (fun _ _ _ _ _ => (pg_name (i := 6) sc_law_nodes.nd rfl (.inl rfl))) (fun _ _ _ _ _ => pts_nil) (fun _ _ _ _ _ => (pe_ix (r := rIxL K) ix_list (pv 3) (pe_idxC (K := K) rfl (pv 2) (pa_cons (pv 6) pa_nil)) (fun _ _ => rfl)))) pa_nil)))
          (pss_one (ps_for PassesOwn.never rfl (pi_list (pv 5)) (pg_name (i := 6) sc_law_nodes.nd rfl (.inl rfl))
            (pss_one (ps_asg (pv 7) (pg_sub (pv 3) (pe_bm PySem.F.plainAttrs_list PySem.F.slot_list_index PySem.F.type_list_index mt_index (pv 2) (pa_cons (pv 6) pa_nil)) set_list)))))))))
      (pss_cons (ps_set (i := 8) sc_law_nodes.nd rfl (.inl rfl) (pe_lst pa_nil))
      (pss_cons (ps_for PassesOwn.never rfl (pi_range1 (by rfl) T.m_range (pa_cons (pe_callB call_len_seq (by rfl) T.m_len (by decide +kernel) (pa_cons (pv 2) pa_nil)) pa_nil)) (pg_name (i := 9) sc_law_nodes.nd rfl (.inr rfl))
        (pss_cons (ps_setLc (i := 10) (own := [("i", 11)]) rfl sc_law_nodes.nd rfl rfl (sw_true rfl rfl rfl (by decide +kernel)) (pi_range1 (by rfl) T.m_range (pa_cons (pe_callB call_len_seq (by rfl) T.m_len (by decide +kernel) (pa_cons (pv 2) pa_nil)) pa_nil)) (blkOk_by (N := ["book", "part", "texts", "labels", "turn", "joint", "text", "low", "rows", "k", "node", "i"]) (sc := defScope s_law_nodes) (by decide +kernel)) (fun _ _ _ _ _ => (pg_name (i := 11) sc_law_nodes.nd rfl (.inl rfl))) (fun _ _ _ _ _ => (pts_one (pt_cmpR op_eq (pe_ix (r := rIxL K) ix_list (pv 3) (pv 11) (fun _ _ => rfl)) (pv 9) (nomark _)))) (fun _ _ _ _ _ => (pe_ix (r := rIxL K) ix_list (pv 2) (pv 11) (fun _ _ => rfl))))
        (pss_one (ps_if (PW.pt (pw_or (pt_cmpR op_gt (pe_callB call_len_seq (by rfl) T.m_len (by decide +kernel) (pa_cons (pv 10) pa_nil)) pe_int (nomark _)) (pw_or1 (PW.pt (pw_and (pt_cmpR op_eq (pe_callB call_len_seq (by rfl) T.m_len (by decide +kernel) (pa_cons (pv 10) pa_nil)) pe_int (nomark _)) (pw_and1 (pt_cmpR op_notIn_seq (pe_ix ix_list (pv 10) pe_int (fun _ _ => rfl)) (pe_ix ix_tup (pv 1) pe_int (fun _ _ => rfl)) rfl)))))))
          (pss_one (ps_expr (pe_bm PySem.F.plainAttrs_list PySem.F.slot_list_append PySem.F.type_list_append mt_append (pv 8) (pa_cons (pv 10) pa_nil))))
          pss_nil))))
      (pss_one (ps_ret (pv 8)))))))), ?_⟩
    have lt := txs_many ok.B
    have tnd := ok.nd
    obtain ⟨ljn, hjn⟩ := ok.jn
    have hp0 := hp
    obtain ⟨a, po, inn, pl, la, jo, rfl, h0, h1, h2, h3, h4, ⟨xs, hjo, hA⟩⟩ := hp0
    refine ⟨_, rfl, _, rfl, b, _, bk, p, pk, rfl, hb, hp, ok.B, nd, hin, gn, fun H1 tx sm1 ntx htx => ?_⟩
    generalize ets : txs p.po pk = ts at *
    have jin : ∀ j ∈ p.jo, ∀ t ∈ j, t ∈ ts := fun j hj => (hjn j hj).2.2.2
    have tw := two_of ⟨ljn, hjn⟩
    obtain ⟨f, fI, fC⟩ := GP.ex_f (J := ixs ts p.jo) fun j hj => by
      obtain ⟨j0, h0, rfl⟩ := List.mem_map.mp hj
      have := (hjn j0 h0).2.1
      exact fun z => by rw [List.map_eq_nil_iff] at z; subst z; exact absurd this (by decide)
    generalize eJ : ixs ts p.jo = J at *
    have lJ : J.length = p.jo.length := by rw [← eJ]; unfold ixs; rw [List.length_map]
    have htx1 : SL H1 tx ts := htx
    refine ⟨_, rfl, tx, _, rfl, .inl (.of htx1), ?_⟩
    refine ⟨_, rfl, RgOk.of_le (by decide) (by rw [List.length_map]; omega) (by decide) (by omega), fun lb nlb => ?_⟩
    have s2 := same_upd nlb (o := .lst (lbv ts.length fun x => x))
    have erg : rgV 0 (((ts.map V.str).length : Nat) : Int) = lbv ts.length fun x => x := by
      unfold rgV lbv
      rw [List.length_map, Int.sub_zero, Int.toNat_natCast]
      exact List.map_congr_left fun x _ => congrArg V.int (Int.zero_add _)
    rw [erg]
    have hlb : upd H1 lb (.lst (lbv ts.length fun x => x)) lb = some (.lst (lbv ts.length fun x => x)) := upd_same
    have sm2 := sm1.trans s2
    have htx2 := s2 _ _ htx1
    have nlb' := same_none sm1 nlb
    generalize upd H1 lb _ = H2 at s2 hlb sm2 htx2
    have tlb : tx ≠ lb := fun z => by have h := htx1; rw [z] at h; rw [show H1 lb = some _ from h] at nlb; cases nlb
    refine ⟨_, rfl, a, _, _, _, rfl, rfl, Same.seqT sm2 h0, rfl, jo, _, rfl, .inl (.of (sm2 _ _ hjo)), _, rfl, by omega, by have := hA.len; omega, ?_⟩
    rw [Int.toNat_natCast]
    refine for_it (walk_range (lo := 0) (n := xs.length)) (fun r σ G => Same H G ∧ SL G tx ts ∧ ∃ (v4 v5 v6 v7 : Option V) (L : Nat → Nat), σ = [some (.ref b), some (.ref a), some (.ref tx), some (.ref lb), v4, v5, v6, v7, none, none, none, none] ∧ G lb = some (.lst (lbv ts.length L)) ∧ GP.Rd J f L r)
      ⟨sm2, htx2, none, none, none, none, fun x => x, rfl, hlb, GP.Rd.start fI fC⟩ (fun _ _ _ _ _ => trivial) (fun r x σ G Gx hr pv y => ?_) (fun σ G pv => ?_)
    · obtain ⟨sm3, htx3, v4, v5, v6, v7, L0, rfl, hlb3, rd⟩ := pv
      obtain ⟨rfl, rfl⟩ := y
      refine ⟨_, rfl, a, _, _, _, rfl, rfl, Same.seqT sm3 h0, rfl, jo, rfl, ⟨xs, .of (sm3 _ _ hjo)⟩, ?_⟩
      refine for_it (walk_list (K := K) (a := jo) (xs := xs)) (fun j σ G => Same H G ∧ SL G tx ts ∧ ∃ (v5 v6 v7 : Option V) (L : Nat → Nat), σ = [some (.ref b), some (.ref a), some (.ref tx), some (.ref lb), some (.int (0 + (r : Int))), v5, v6, v7, none, none, none, none] ∧ G lb = some (.lst (lbv ts.length L)) ∧ GP.Mid J (J.take j) f L0 L)
        ⟨sm3, htx3, v5, v6, v7, L0, rfl, hlb3, GP.Mid.start rd.inn⟩ (fun _ _ _ _ z => .of (z.1 _ _ hjo)) (fun j x σ G Gx hj pv y => ?_) (fun σ G pv => ?_)
      · obtain ⟨sm4, htx4, v5, v6, v7, L, rfl, hlb4, md⟩ := pv
        obtain ⟨rfl, hx⟩ := y
        obtain ⟨j0, hj0, ja, rfl, hja⟩ := hA.get hx
        obtain ⟨jnd, jl2, jl, jm⟩ := hjn j0 (mem_at hj0)
        have hja4 := sm4 _ _ hja
        have eJj : J[j]? = some (j0.map fun t => ts.idxOf t) := by rw [← eJ]; unfold ixs; rw [List.getElem?_map, hj0]; rfl
        refine ⟨_, rfl, ja, rfl, ⟨_, .of hja4⟩, fun M nM => ?_⟩
        refine lc_rel (xs := j0.map V.str) (fun k y => ∀ t, j0[k]? = some t → y = .int (L (ts.idxOf t) : Nat)) nM (.of hja4) (small' (by rw [List.length_map]; omega)) (fun k x G2 Q' hx sm5 hq => ?_) (fun G2 zs sm5 hM hn hr => ?_)
        · rw [List.getElem?_map] at hx
          cases ej : j0[k]? with
          | none => rw [ej] at hx; cases hx
          | some t =>
            rw [ej] at hx
            obtain rfl := Option.some.inj hx
            have mt := jm t (mem_at ej)
            refine ⟨_, rfl, _, rfl, .inl ⟨rfl, _, .of (sm5 _ _ htx4)⟩, _, rfl, tx, _, _, _, _, rfl, rfl, .of (sm5 _ _ htx4), rfl, flat_strs ts, ix_str mt, ix_yes t, ix_no tnd mt, ?_⟩
            refine ⟨lb, _, _, _, rfl, rfl, .of (sm5 _ _ hlb4), atI_nat (lbv_get L (List.idxOf_lt_length_of_mem mt)), hq _ fun t' h => ?_⟩
            rw [ej] at h
            obtain rfl := Option.some.inj h
            rfl
        · have ez : zs = (j0.map fun t => ((L (ts.idxOf t) : Nat) : Int)).map V.int := by
            refine List.ext_getElem? fun k => ?_
            rw [List.length_map] at hn
            rw [List.map_map, List.getElem?_map]
            rcases Nat.lt_or_ge k j0.length with hk | hk
            · obtain ⟨y, h⟩ : ∃ y, zs[k]? = some y := ⟨zs[k]'(by omega), by simp [show k < zs.length by omega]⟩
              have e : j0[k]? = some j0[k] := by simp [hk]
              rw [h, e, hr k y h _ e]; rfl
            · rw [List.getElem?_eq_none (by omega), List.getElem?_eq_none hk]; rfl
          subst ez
          refine ⟨M, _, rfl, .of hM, by rw [List.length_map]; exact List.length_pos_iff.mpr (fun z => by rw [z] at jl2; exact absurd jl2 (by decide)), fun m hm hle => ?_⟩
          obtain ⟨t0, ht0, rfl⟩ := List.mem_map.mp hm
          generalize elow : L (ts.idxOf t0) = low
          have hlow : GP.Low L (j0.map fun t => ts.idxOf t) low := by
            refine ⟨⟨_, List.mem_map_of_mem ht0, elow⟩, fun x hx => ?_⟩
            obtain ⟨t, ht, rfl⟩ := List.mem_map.mp hx
            have := hle _ (List.mem_map_of_mem (f := fun t => ((L (ts.idxOf t) : Nat) : Int)) ht)
            rw [elow] at this
            omega
          have sm6 := sm4.trans sm5
          have htx6 := sm5 _ _ htx4
          have hlb6 := sm5 _ _ hlb4
          refine ⟨_, rfl, ja, rfl, ⟨_, .of (sm6 _ _ hja)⟩, ?_⟩
          refine for_it (walk_list (K := K) (a := ja) (xs := j0.map V.str)) (fun k σ G => Same H G ∧ SL G tx ts ∧ ∃ (v6 : Option V) (L' : Nat → Nat), σ = [some (.ref b), some (.ref a), some (.ref tx), some (.ref lb), some (.int (0 + (r : Int))), some (.ref ja), v6, some (.int (low : Nat)), none, none, none, none] ∧ G lb = some (.lst (lbv ts.length L')) ∧ ∀ x, L' x = GP.spread L ((j0.take k).map fun t => ts.idxOf t) low x)
            ⟨sm6, htx6, v6, L, rfl, hlb6, fun x => rfl⟩ (fun _ _ _ _ z => .of (z.1 _ _ hja)) (fun k x σ G Gx hk pv y => ?_) (fun σ G pv => ?_)
          · obtain ⟨sm7, htx7, v6, L', rfl, hlb7, hL'⟩ := pv
            obtain ⟨rfl, hx⟩ := y
            rw [List.length_map] at hk
            have et : j0[k]? = some j0[k] := by simp [hk]
            rw [List.getElem?_map, et] at hx
            obtain rfl := Option.some.inj hx
            have mt := jm _ (List.getElem_mem hk)
            have htx7' : Gx tx = some (.lst (ts.map V.str)) := htx7
            refine ⟨_, rfl, _, rfl, _, rfl, .inl ⟨rfl, _, .of htx7'⟩, _, rfl, tx, _, _, _, _, rfl, rfl, .of htx7', rfl, flat_strs ts, ix_str mt, ix_yes _, ix_no tnd mt, ?_⟩
            refine ⟨lb, _, _, _, rfl, rfl, hlb7, ixN_at (by rw [lbv_len]; exact List.idxOf_lt_length_of_mem mt), ?_⟩
            rw [lbv_set]
            refine ⟨same_over sm7 nlb', ?_, _, _, rfl, upd_same, fun x => ?_⟩
            · show upd Gx lb _ tx = _
              rw [upd_ne tlb]
              exact htx7'
            · unfold GP.spread
              rw [take_snoc et, List.map_append]
              by_cases e : x = ts.idxOf j0[k]
              · have m : x ∈ (j0.take k).map (fun t => ts.idxOf t) ++ [j0[k]].map (fun t => ts.idxOf t) := List.mem_append_right _ (List.mem_singleton.mpr e)
                rw [if_pos e, if_pos m]
              · rw [if_neg e, hL' x]
                unfold GP.spread
                have : x ∈ (j0.take k).map (fun t => ts.idxOf t) ++ [j0[k]].map (fun t => ts.idxOf t) ↔ x ∈ (j0.take k).map (fun t => ts.idxOf t) := by
                  rw [List.mem_append]
                  exact ⟨fun z => z.elim id fun z => absurd (List.mem_singleton.mp z) e, .inl⟩
                by_cases z : x ∈ (j0.take k).map (fun t => ts.idxOf t)
                · rw [if_pos z, if_pos (this.mpr z)]
                · rw [if_neg z, if_neg fun w => z (this.mp w)]
          · obtain ⟨sm7, htx7, v6, L', rfl, hlb7, hL'⟩ := pv
            rw [List.length_map, List.take_length] at hL'
            have md' := GP.Mid.step fI fC md (mem_at eJj) hlow
            rw [← show L' = GP.spread L (j0.map fun t => ts.idxOf t) low from funext hL'] at md'
            refine ⟨sm7, htx7, _, _, _, L', rfl, hlb7, ?_⟩
            rw [take_snoc eJj]
            exact md'
      · obtain ⟨sm4, htx4, v5, v6, v7, L, rfl, hlb4, md⟩ := pv
        rw [hA.len, ← lJ, List.take_length] at md
        exact ⟨sm4, htx4, _, _, _, _, L, rfl, hlb4, GP.Rd.step fI fC rd md⟩
    · obtain ⟨sm3, htx3, v4, v5, v6, v7, L, rfl, hlb3, rd⟩ := pv
      rw [hA.len, ← lJ] at rd
      rw [show L = f from funext rd.fin] at hlb3
      refine ⟨by show 0 ≤ sizeLine; decide, fun rw' nrw => ?_⟩
      have s4 := same_upd nrw (o := .lst [])
      have nrw' := same_none sm3 nrw
      have hrw : upd G rw' (.lst []) rw' = some (.lst []) := upd_same
      have sm4 := sm3.trans s4
      have htx4 := s4 _ _ htx3
      have hlb4 := s4 _ _ hlb3
      generalize upd G rw' _ = G4 at s4 hrw sm4 htx4 hlb4
      refine ⟨_, rfl, tx, _, rfl, .inl (.of htx4), _, rfl, by omega, by rw [List.length_map]; omega, ?_⟩
      rw [Int.toNat_natCast, List.length_map]
      have trw : tx ≠ rw' := fun z => by have h := htx3; rw [z] at h; rw [show G rw' = some _ from h] at nrw; cases nrw
      have lrw : lb ≠ rw' := fun z => by rw [z, nrw] at hlb3; cases hlb3
      refine for_it (walk_range (lo := 0) (n := ts.length)) (fun k σ G => Same H G ∧ SL G tx ts ∧ ∃ (v9 v10 : Option V) (zs : List V), σ = [some (.ref b), some (.ref a), some (.ref tx), some (.ref lb), v4, v5, v6, v7, some (.ref rw'), v9, v10, none] ∧ G lb = some (.lst (lbv ts.length f)) ∧ G rw' = some (.lst zs) ∧ A2 (NwS H rw' JoV G) zs (GP.rowsL ts p.po f k))
        ⟨sm4, htx4, none, none, [], rfl, hlb4, hrw, .nil⟩ (fun _ _ _ _ _ => trivial) (fun k x σ G Gx hk pv y => ?_) (fun σ G pv => ?_)
      · obtain ⟨sm5, htx5, v9, v10, zs, rfl, hlb5, hrw5, hZ⟩ := pv
        obtain ⟨rfl, rfl⟩ := y
        refine ⟨_, rfl, tx, _, rfl, .inl (.of htx5), _, rfl, by omega, by rw [List.length_map]; omega, fun D nD => ?_⟩
        rw [Int.toNat_natCast, List.length_map]
        refine lc_inv (walk_range (lo := 0) (n := ts.length)) (fun j G vs => vs = (GP.cls ts f k j).map V.str) nD (fun _ _ => trivial) (small' (by omega)) rfl (fun j x G6 Gx6 ys hj sm6 hD hR y Qt Qf qt qf => ?_) (fun G6 ys sm6 hD hR => ?_)
        · obtain ⟨rfl, rfl⟩ := y
          subst hR
          have et : ts[j]? = some ts[j] := by simp [hj]
          have a1 : atI (lbv ts.length f) (0 + (j : Int)) = some (.int (f j : Nat)) := by rw [Int.zero_add]; exact atI_nat (lbv_get f hj)
          have a2 : atI (ts.map V.str) (0 + (j : Int)) = some (.str ts[j]) := by rw [Int.zero_add]; exact atI_nat (by rw [List.getElem?_map, et]; rfl)
          refine ⟨rfl, _, rfl, _, rfl, lb, _, _, _, rfl, rfl, .of (sm6 _ _ hlb5), a1, _, rfl, rfl, _, rfl, ite2 (fun h => ?_) (fun h => ?_)⟩
          · have e : f j = k := by have z : V.int (f j : Nat) = V.int (0 + (k : Int)) := of_decide_eq_true h; injection z; omega
            refine ⟨_, rfl, _, rfl, tx, _, _, _, rfl, rfl, .of (sm6 _ _ htx5), a2, qt _ _ (Same.refl _) ?_⟩
            rw [GP.cls_in e et, List.map_append]; rfl
          · have e : ¬ f j = k := fun z => h (decide_eq_true (show V.int (f j : Nat) = V.int (0 + (k : Int)) by rw [z, Int.zero_add]))
            refine qf _ (Same.refl _) ?_
            rw [GP.cls_out e]
        · subst hR
          have sm7 := sm5.trans sm6
          have lcl := GP.cls_len ts f k ts.length
          have hpo7 := sm7 _ _ h1
          refine ⟨_, rfl, D, _, rfl, .inl (.of hD), _, _, rfl, rfl, _, rfl, ?_⟩
          refine two (A := GP.due p.po (GP.cls ts f k ts.length) = true → _) (fun hd => ?_) (fun hT => ite2 (fun h => iteT (hT ?_)) (fun h => ⟨_, rfl, D, _, rfl, .inl (.of hD), rfl, _, rfl, ite2 (fun h2 => ?_) (fun h2 => ?_)⟩))
          · have Drw : D ≠ rw' := fun z => by rw [z, hrw5] at nD; cases nD
            have nDH := same_none sm5 nD
            refine ⟨_, rfl, .inl ⟨rfl, _, .of (sm6 _ _ hrw5)⟩, _, rfl, rw', _, _, rfl, rfl, sm6 _ _ hrw5, small' (by have := hZ.len; have := GP.rowsL_len ts p.po f k; omega), ?_⟩
            refine ⟨same_over sm7 nrw', ?_, _, _, _, rfl, ?_, upd_same, ?_⟩
            · show upd G6 rw' _ tx = _
              rw [upd_ne trw]
              exact sm6 _ _ htx5
            · rw [upd_ne lrw]
              exact sm6 _ _ hlb5
            · rw [GP.rowsL_snoc, if_pos hd]
              exact A2.snoc (fun G8 sg => ⟨D, rfl, sg _ _ nDH Drw (by rw [upd_ne Drw]; exact hD)⟩) (NwS.all SameX.put (NwS.all (sx sm6) hZ))
          · unfold GP.due
            rw [decide_eq_true (show 1 < (GP.cls ts f k ts.length).length by have := of_decide_eq_true h; rw [List.length_map] at this; omega)]; rfl
          · have l1 : (GP.cls ts f k ts.length).length = 1 := by have z : V.int (((GP.cls ts f k ts.length).map V.str).length : Nat) = V.int 1 := of_decide_eq_true h2; injection z with z; rw [List.length_map] at z; omega
            obtain ⟨u, eu⟩ := List.length_eq_one_iff.mp l1
            refine ⟨_, rfl, D, _, _, _, rfl, rfl, .of hD, (by rw [eu]; rfl), _, rfl, a, _, _, _, rfl, rfl, Same.seqT sm7 h0, rfl, po, _, rfl, .inl (.of hpo7), rfl, flat_strs p.po, _, rfl, ?_⟩
            rw [in_strs]
            refine ite2 (fun h3 => hT ?_) (fun h3 => ?_)
            · have nu : u ∉ p.po := fun z => by rw [decide_eq_true z] at h3; cases h3
              unfold GP.due
              rw [eu]
              simp [nu]
            · have nu : u ∈ p.po := Classical.byContradiction fun z => h3 (by rw [decide_eq_false z]; rfl)
              refine ⟨sm7, sm6 _ _ htx5, _, _, zs, rfl, sm6 _ _ hlb5, sm6 _ _ hrw5, ?_⟩
              rw [GP.rowsL_snoc, if_neg (by unfold GP.due; rw [eu]; simp [nu]), List.append_nil]
              exact NwS.all (sx sm6) hZ
          · refine ⟨sm7, sm6 _ _ htx5, _, _, zs, rfl, sm6 _ _ hlb5, sm6 _ _ hrw5, ?_⟩
            have z1 : ¬ 1 < (GP.cls ts f k ts.length).length := fun z => h (decide_eq_true (by rw [List.length_map]; omega))
            have z2 : ¬ (GP.cls ts f k ts.length).length = 1 := fun z => h2 (decide_eq_true (show V.int (((GP.cls ts f k ts.length).map V.str).length : Nat) = V.int 1 by rw [List.length_map, z]; rfl))
            rw [GP.rowsL_snoc, if_neg (by unfold GP.due; rw [decide_eq_false z1, decide_eq_false z2]; exact Bool.false_ne_true), List.append_nil]
            exact NwS.all (sx sm6) hZ
      · obtain ⟨sm5, htx5, v9, v10, zs, rfl, hlb5, hrw5, hZ⟩ := pv
        exact ⟨_, rfl, q G rw' f sm5 fI fC ⟨zs, hrw5, hZ.mono fun _ _ z => z.at⟩⟩
end
end K08
-- G8
namespace K08
open PySem PySem.Spec PyProof.Rows L2
section
variable {P : Program} {w : World} {K : PySem.W.Frag} {mg : Str → Option Value} {base : Heap}
/-! ### the great book -/
def jokN (tx : List Str) (j : List Str) : Prop := j.Nodup ∧ 2 ≤ j.length ∧ j.length ≤ 12 ∧ ∀ t ∈ j, t ∈ tx
def oneP (s l n : Nat) : Prt := ⟨"one", (pool s l).take n, [], [], [], []⟩
def twoP (s l m b : Nat) (js : List (List Str)) : Prt := ⟨"two", (pool s l).take b, [], (List.range m).map fun k => (pn s l (20 + k), ("one" : Str)), [], js⟩
def gpk (s l n m : Nat) : List (Str × Prt) := (List.range m).map fun k => (pn s l (20 + k), oneP s l n)
structure GrB (s l n m b : Nat) (js : List (List Str)) : Prop where
  hs : s < 26
  hl : l < 2
  hn : n ≤ 8
  hm : m ≤ 12
  hb : b ≤ 8
  jm : js.length ≤ 20
  jo : ∀ j ∈ js, jokN (txs ((pool s l).take b) (gpk s l n m)) j
theorem mul20 {x f : Int} (h0 : 0 ≤ x) (h1 : x ≤ 20) (f0 : 0 ≤ f) (f1 : f ≤ 1) : ∃ n : Nat, x * f = (n : Int) ∧ n ≤ 20 ∧ (0 < n → 0 < f) := by
  have : f = 0 ∨ f = 1 := by omega
  rcases this with rfl | rfl
  · exact ⟨0, by rw [Int.mul_zero]; rfl, by decide, fun h => absurd h (by decide)⟩
  · exact ⟨x.toNat, by rw [Int.mul_one]; omega, by omega, fun _ => by decide⟩
def sp_law_great (K : PySem.W.Frag) : Sp := fun vs H Q _ => ∃ (a : Addr) (ds : List Int), vs = [.ref a] ∧ IL H a ds ∧
  ∀ (H' : Hp) (bk : Addr) (s l n m b : Nat) (js : List (List Str)), Same H H' → BK K H' bk [oneP s l n, twoP s l m b js] → GrB s l n m b js → Q (.ref bk) H'
theorem ok_law_great (T : Txt K mg) : FnOk P w K mg base CX0 3 T.law_great.a T.law_great.fd ["draws"] (sp_law_great K) := by
  refine T.law_great.F.ok sc_law_great (fun vs H Q E h => ?_) (fun cdv A outer s H vs Q E hr h => ?_)
  · obtain ⟨a, ds, rfl, _⟩ := h
    rfl
  · obtain ⟨a, ds, rfl, ha, q⟩ := h
    refine ⟨_, (pss_cons (ps_set (i := 1) sc_law_great.nd rfl (.inr rfl) (pe_call (ok_law_pool T) (hr.mono (by decide)) (by rfl) T.law_pool.g T.law_pool.F.kp T.law_pool.b .nil pass0 (pa_cons (pv 0) (pa_cons pe_int pa_nil))))
      (pss_cons (ps_set (i := 2) sc_law_great.nd rfl (.inl rfl) (pe_tup (pa_cons pe_str (pa_cons (pe_slice sl_list (pv 1) po_none (po_some (pe_op op_add pe_int (pe_call (ok_law_at T) (hr.mono (by decide)) (by rfl) T.law_at.g T.law_at.F.kp T.law_at.b .nil pass0 (pa_cons (pv 0) (pa_cons pe_int (pa_cons pe_int pa_nil))))))) (pa_cons (pe_lst pa_nil) (pa_cons (pe_lst pa_nil) (pa_cons (pe_lst pa_nil) (pa_cons (pe_lst pa_nil) pa_nil))))))))
      (pss_cons (ps_set (i := 3) sc_law_great.nd rfl (.inl rfl) (pe_slice sl_list (pv 1) po_none (po_some (pe_call (ok_law_at T) (hr.mono (by decide)) (by rfl) T.law_at.g T.law_at.F.kp T.law_at.b .nil pass0 (pa_cons (pv 0) (pa_cons pe_int (pa_cons pe_int pa_nil)))))))
      (pss_cons (ps_setLc (i := 4) (own := [("k", 12)]) rfl sc_law_great.nd rfl rfl (sw_true rfl rfl rfl (by decide +kernel)) (pi_range1 (by rfl) T.m_range (pa_cons (pe_op op_add pe_int (pe_call (ok_law_at T) (hr.mono (by decide)) (by rfl) T.law_at.g T.law_at.F.kp T.law_at.b .nil pass0 (pa_cons (pv 0) (pa_cons pe_int (pa_cons pe_int pa_nil))))) pa_nil)) (blkOk_by (N := ["draws", "pool", "kind", "ports", "places", "texts", "place", "joints", "turn", "joint", "step", "text", "k", "port"]) (sc := defScope s_law_great) (by decide +kernel)) (fun _ _ _ _ _ => (pg_name (i := 12) sc_law_great.nd rfl (.inl rfl))) (fun _ _ _ _ _ => pts_nil) (fun _ _ _ _ _ => (pe_tup (pa_cons (pe_ix (r := rIxL K) ix_list (pv 1) (pe_op op_add pe_int (pv 12)) (fun _ _ => rfl)) (pa_cons pe_str pa_nil)))))
      (pss_cons (ps_set (i := 5) sc_law_great.nd rfl (.inl rfl) (pe_callTy call_list_of (by rfl) T.m_list (by decide +kernel) (pa_cons (pv 3) pa_nil)))
      (pss_cons (ps_for PassesOwn.never rfl (pi_list (pv 4)) (pg_name (i := 6) sc_law_great.nd rfl (.inr rfl))
        (pss_one (ps_set (i := 5) sc_law_great.nd rfl (.inl rfl) (pe_op op_cat (pv 5) (pe_lc (own := [("port", 13)]) rfl sc_law_great.nd (pi_list (pe_ix ix_tup (pv 2) pe_int (fun _ _ => rfl))) (blkOk_by (N := ["draws", "pool", "kind", "ports", "places", "texts", "place", "joints", "turn", "joint", "step", "text", "k", "port"]) (sc := defScope s_law_great) (by decide +kernel)) (fun _ _ _ _ _ => (pg_name (i := 13) sc_law_great.nd rfl (.inl rfl))) (fun _ _ _ _ _ => pts_nil) (fun _ _ _ _ _ => (pe_op op_add_str (pe_op op_add_str (pe_ix (r := rIxT K) ix_tup (pv 6) pe_int (fun _ _ => rfl)) pe_str) (pv 13))))))))
      (pss_cons (ps_set (i := 7) sc_law_great.nd rfl (.inl rfl) (pe_lst pa_nil))
      (pss_cons (ps_for PassesOwn.never rfl (pi_range1 (by rfl) T.m_range (pa_cons (pe_op op_mul (pe_call (ok_law_at T) (hr.mono (by decide)) (by rfl) T.law_at.g T.law_at.F.kp T.law_at.b .nil pass0 (pa_cons (pv 0) (pa_cons pe_int (pa_cons pe_int pa_nil)))) (pe_callTy call_int1 (by rfl) T.m_int (by decide +kernel) (pa_cons (pe_cmpR op_gt (pe_callB call_len_seq (by rfl) T.m_len (by decide +kernel) (pa_cons (pv 5) pa_nil)) pe_int (nomark _)) pa_nil))) pa_nil)) (pg_name (i := 8) sc_law_great.nd rfl (.inl rfl))
        (pss_cons (ps_set (i := 9) sc_law_great.nd rfl (.inl rfl) (pe_lst pa_nil))
        (pss_cons (ps_for PassesOwn.never rfl (pi_range1 (by rfl) T.m_range (pa_cons (pe_op op_add pe_int (pe_call (ok_law_at T) (hr.mono (by decide)) (by rfl) T.law_at.g T.law_at.F.kp T.law_at.b .nil pass0 (pa_cons (pv 0) (pa_cons (pe_op op_add pe_int (pv 8)) (pa_cons pe_int pa_nil))))) pa_nil)) (pg_name (i := 10) sc_law_great.nd rfl (.inl rfl))
          (pss_cons (ps_set (i := 11) sc_law_great.nd rfl (.inl rfl) (pe_ix ix_list (pv 5) (pe_op op_mod (pe_callTy call_int1 (by rfl) T.m_int (by decide +kernel) (pa_cons (pe_op op_add (pe_op op_mul (pe_call (ok_law_at T) (hr.mono (by decide)) (by rfl) T.law_at.g T.law_at.F.kp T.law_at.b .nil pass0 (pa_cons (pv 0) (pa_cons (pe_op op_add pe_int (pv 8)) (pa_cons pe_int pa_nil)))) (pe_op op_add (pv 10) pe_int)) (pe_op op_mul pe_int (pv 10))) pa_nil)) (pe_callB call_len_seq (by rfl) T.m_len (by decide +kernel) (pa_cons (pv 5) pa_nil))) (fun _ _ => rfl)))
          (pss_one (ps_if (pt_cmpR op_notIn_seq (pv 11) (pv 9) rfl)
            (pss_one (ps_expr (pe_bm PySem.F.plainAttrs_list PySem.F.slot_list_append PySem.F.type_list_append mt_append (pv 9) (pa_cons (pv 11) pa_nil))))
            pss_nil))))
        (pss_one (ps_if (pt_cmpR op_gt (pe_callB call_len_seq (by rfl) T.m_len (by decide +kernel) (pa_cons (pv 9) pa_nil)) pe_int (nomark _))
          (pss_one (ps_expr (pe_bm PySem.F.plainAttrs_list PySem.F.slot_list_append PySem.F.type_list_append mt_append (pv 7) (pa_cons (pv 9) pa_nil))))
          pss_nil)))))
      (pss_one (ps_ret (pe_lst (pa_cons (pv 2) (pa_cons (pe_tup (pa_cons pe_str (pa_cons (pv 3) (pa_cons (pe_lst pa_nil) (pa_cons (pv 4) (pa_cons (pe_lst pa_nil) (pa_cons (pv 7) pa_nil))))))) pa_nil))))))))))))), ?_⟩
    refine ⟨.ref a, rfl, a, ds, 92, rfl, ha, by decide, fun H1 pl s l hs hl sm1 npl hpl => ?_⟩
    have c0 := la0 (ds := ds) (k := 93) (many := 8) (by decide)
    have c1 := la1 (ds := ds) (k := 93) (many := 8) (by decide)
    obtain ⟨n, en⟩ : ∃ n : Nat, 1 + la ds 93 8 = (n : Int) := ⟨(1 + la ds 93 8).toNat, by omega⟩
    refine ⟨_, rfl, .ref a, rfl, a, ds, _, 8, rfl, ha.same sm1, by decide, by decide, _, _, rfl, rfl, _, rfl, pl, _, rfl, .of hpl, fun kpo nkpo => ?_⟩
    rw [en, cut_to rfl, ← List.map_take]
    have s2 := same_upd nkpo (o := .lst (((pool s l).take n).map V.str))
    have hkpo : SL (upd H1 kpo (.lst (((pool s l).take n).map V.str))) kpo ((pool s l).take n) := upd_same
    have sm2 := sm1.trans s2
    have hpl2 := s2 _ _ hpl
    generalize upd H1 kpo _ = H2 at s2 hkpo sm2 hpl2
    refine ⟨by show 0 ≤ sizeLine; decide, fun e1 n1 => ⟨by show 0 ≤ sizeLine; decide, fun e2 n2 => ⟨by show 0 ≤ sizeLine; decide, fun e3 n3 => ⟨by show 0 ≤ sizeLine; decide, fun e4 n4 => ⟨by show 6 ≤ sizeLine; decide, fun kt nkt => ?_⟩⟩⟩⟩⟩
    have u1 := same_upd n1 (o := .lst [])
    have u2 := same_upd n2 (o := .lst [])
    have u3 := same_upd n3 (o := .lst [])
    have u4 := same_upd n4 (o := .lst [])
    have u5 := same_upd nkt (o := .tup [.str ("one" : Str), .ref kpo, .ref e1, .ref e2, .ref e3, .ref e4])
    have s3 := u1.trans (u2.trans (u3.trans (u4.trans u5)))
    have hP1 : PT K (upd (upd (upd (upd (upd H2 e1 (.lst [])) e2 (.lst [])) e3 (.lst [])) e4 (.lst [])) kt (.tup [.str ("one" : Str), .ref kpo, .ref e1, .ref e2, .ref e3, .ref e4])) (.ref kt) (oneP s l n) := ⟨kt, kpo, e1, e2, e3, e4, rfl, .of upd_same, s3 _ _ hkpo, (u2.trans (u3.trans (u4.trans u5))) _ _ upd_same, ⟨[], (u3.trans (u4.trans u5)) _ _ upd_same, .nil⟩, ⟨[], (u4.trans u5) _ _ upd_same, .nil⟩, ⟨[], u5 _ _ upd_same, .nil⟩⟩
    have sm3 := sm2.trans s3
    have hpl3 := s3 _ _ hpl2
    have hkt : upd (upd (upd (upd (upd H2 e1 (.lst [])) e2 (.lst [])) e3 (.lst [])) e4 (.lst [])) kt (.tup [.str ("one" : Str), .ref kpo, .ref e1, .ref e2, .ref e3, .ref e4]) kt = some (.tup [.str ("one" : Str), .ref kpo, .ref e1, .ref e2, .ref e3, .ref e4]) := upd_same
    have hkpo3 := s3 _ _ hkpo
    generalize upd (upd (upd (upd (upd H2 e1 _) e2 _) e3 _) e4 _) kt _ = H3 at s3 hP1 sm3 hpl3 hkt hkpo3
    have d0 := la0 (ds := ds) (k := 94) (many := 9) (by decide)
    have d1 := la1 (ds := ds) (k := 94) (many := 9) (by decide)
    obtain ⟨b, eb⟩ : ∃ b : Nat, la ds 94 9 = (b : Int) := ⟨_, (Int.toNat_of_nonneg d0).symm⟩
    refine ⟨_, rfl, .ref a, rfl, a, ds, _, 9, rfl, ha.same sm3, by decide, by decide, _, rfl, pl, _, rfl, .of hpl3, fun po npo => ?_⟩
    rw [eb, cut_to rfl, ← List.map_take]
    have t1 := same_upd npo (o := .lst (((pool s l).take b).map V.str))
    have hpo : SL (upd H3 po (.lst (((pool s l).take b).map V.str))) po ((pool s l).take b) := upd_same
    have sm4 := sm3.trans t1
    have hpl4 := t1 _ _ hpl3
    have hP4 := hP1.same t1
    have hkt4 := t1 _ _ hkt
    have hkpo4 := t1 _ _ hkpo3
    generalize upd H3 po _ = H4 at t1 hpo sm4 hpl4 hP4 hkt4 hkpo4
    have f0 := la0 (ds := ds) (k := 95) (many := 12) (by decide)
    have f1 := la1 (ds := ds) (k := 95) (many := 12) (by decide)
    obtain ⟨m, em⟩ : ∃ m : Nat, 1 + la ds 95 12 = (m : Int) := ⟨(1 + la ds 95 12).toNat, by omega⟩
    refine ⟨.ref a, rfl, a, ds, _, 12, rfl, ha.same sm4, by decide, by decide, _, _, rfl, rfl, ?_⟩
    refine ⟨_, rfl, by omega, by omega, fun D nD => ?_⟩
    rw [em, Int.toNat_natCast]
    refine lc_inv (walk_range (lo := 0) (n := m)) (fun j G vs => A2 (Stb D (PlV K) G) vs ((List.range j).map fun k => (pn s l (20 + k), ("one" : Str)))) nD (fun _ _ => trivial) (small' (by omega)) .nil (fun j x G Gx ys hj sm5 hD hR y Qt Qf qt qf => ?_) (fun H5 ys sm5 hD hR => ?_)
    · obtain ⟨rfl, rfl⟩ := y
      refine ⟨rfl, _, rfl, _, rfl, _, _, rfl, rfl, pl, _, _, _, rfl, rfl, .of (sm5 _ _ hpl4), pool_at (i := 20 + j) (by omega) (by omega), by show 2 ≤ sizeLine; decide, fun t nt => ?_⟩
      have tD : t ≠ D := fun z => by rw [z, hD] at nt; cases nt
      refine qt _ _ (same_upd nt) ?_
      rw [List.range_succ, List.map_append]
      refine A2.snoc (fun G' sg => ⟨t, rfl, .of (sg _ _ tD (by rw [upd_ne tD]; exact upd_same))⟩) (Stb.all ((sx (same_upd nt)).trans SameX.put) hR)
    · have smT := sm4.trans sm5
      have hpl5 := sm5 _ _ hpl4
      have hpo5 : SL H5 po ((pool s l).take b) := sm5 _ _ hpo
      have hP5 := hP4.same sm5
      have hkt5 := sm5 _ _ hkt4
      have hkpo5 := sm5 _ _ hkpo4
      have hPL : PlL K H5 D ((List.range m).map fun k => (pn s l (20 + k), ("one" : Str))) := ⟨ys, hD, hR.mono fun _ _ z => z.at⟩
      have hA : A2 (PlV K H5) ys ((List.range m).map fun k => (pn s l (20 + k), ("one" : Str))) := hR.mono fun _ _ z => z.at
      clear hR
      refine ⟨_, rfl, po, _, rfl, .inl (.of hpo5), fun tx ntx => ?_⟩
      have v1 := same_upd ntx (o := .lst (((pool s l).take b).map V.str))
      refine ⟨_, rfl, D, rfl, ⟨ys, .of (v1 _ _ hD)⟩, ?_⟩
      refine for_it (walk_list (K := K) (a := D) (xs := ys)) (fun i σ G => Same H5 G ∧ ∃ (v6 : Option V) (tx : Addr), σ = [some (.ref a), some (.ref pl), some (.ref kt), some (.ref po), some (.ref D), some (.ref tx), v6, none, none, none, none, none, none, none] ∧ SL G tx (txs ((pool s l).take b) ((gpk s l n m).take i)))
        ⟨v1, none, tx, rfl, by unfold txs; rw [List.take_zero, List.flatMap_nil, List.append_nil]; exact upd_same⟩ (fun _ _ _ _ z => .of (z.1 _ _ hD)) (fun i x σ G Gx hi pv y => ?_) (fun σ G pv => ?_)
      · obtain ⟨sm6, v6, tx, rfl, htx⟩ := pv
        obtain ⟨rfl, hx⟩ := y
        obtain ⟨pr, hpr, t, rfl, hq⟩ := hA.get hx
        have li : i < m := by have := hA.len; rw [List.length_map, List.length_range] at this; omega
        rw [List.getElem?_map, List.getElem?_range li] at hpr
        obtain rfl := Option.some.inj hpr
        have ek : (gpk s l n m)[i]? = some (pn s l (20 + i), oneP s l n) := by
          unfold gpk
          rw [List.getElem?_map, List.getElem?_range li]; rfl
        have hkpo6 : SL Gx kpo ((pool s l).take n) := sm6 _ _ hkpo5
        refine ⟨_, rfl, _, rfl, kt, _, _, _, rfl, rfl, .of (sm6 _ _ hkt5), rfl, kpo, rfl, ⟨_, .of hkpo6⟩, fun M nM => ?_⟩
        refine lc_rel (xs := ((pool s l).take n).map V.str) (fun j y => ∀ q, ((pool s l).take n)[j]? = some q → y = .str (pn s l (20 + i) ++ ("." : Str) ++ q)) nM (.of hkpo6) (small' (by rw [List.length_map, List.length_take]; omega)) (fun j x G8 Q' hx sm8 hq' => ?_) (fun G8 zs sm8 hM hn' hr => ?_)
        · rw [List.getElem?_map] at hx
          cases ej : ((pool s l).take n)[j]? with
          | none => rw [ej] at hx; cases hx
          | some qn =>
            rw [ej] at hx
            obtain rfl := Option.some.inj hx
            have g1 := (pn_gs (s := s) hl (show 20 + i < 52 by omega)).1
            have g2 := (pool_gs hl qn (List.mem_of_mem_take (mem_at ej))).1
            have g3 : (pn s l (20 + i) ++ ("." : Str)).length ≤ 13 := by rw [Str.length_append]; show _ + 1 ≤ 13; omega
            refine ⟨_, rfl, t, _, _, _, rfl, rfl, Same.seqT (sm6.trans sm8) hq, rfl, _, _, rfl, rfl, small (show (pn s l (20 + i)).length + 1 ≤ 60000 by omega), _, rfl, _, _, rfl, rfl, small (show (pn s l (20 + i) ++ ("." : Str)).length + qn.length ≤ 60000 by omega), hq' _ fun q hq => ?_⟩
            rw [ej] at hq
            obtain rfl := Option.some.inj hq
            rfl
        · have ez : zs = (blk (pn s l (20 + i), oneP s l n)).map V.str := by
            refine List.ext_getElem? fun j => ?_
            rw [List.length_map] at hn'
            unfold blk oneP
            rw [List.map_map, List.getElem?_map]
            rcases Nat.lt_or_ge j ((pool s l).take n).length with hj | hj
            · obtain ⟨y, h⟩ : ∃ y, zs[j]? = some y := ⟨zs[j]'(by omega), by simp [show j < zs.length by omega]⟩
              have e : ((pool s l).take n)[j]? = some ((pool s l).take n)[j] := List.getElem?_eq_getElem hj
              rw [h, e, hr j y h _ e]; rfl
            · rw [List.getElem?_eq_none (by omega), List.getElem?_eq_none hj]; rfl
          subst ez
          refine ⟨tx, M, _, _, rfl, rfl, sm8 _ _ htx, hM, ?_, fun z nz => ?_⟩
          · have h1 : (txs ((pool s l).take b) ((gpk s l n m).take i)).length ≤ 8 + 20 * i := by
              unfold txs
              rw [List.length_append, List.length_take]
              have := txs20 ((gpk s l n m).take i) fun x hx => by
                obtain ⟨k, _, rfl⟩ := List.mem_map.mp (List.mem_of_mem_take hx)
                show (List.take n _).length ≤ 20
                rw [List.length_take]; omega
              rw [List.length_take (i := i)] at this
              omega
            have h2 : (blk (pn s l (20 + i), oneP s l n)).length ≤ 8 := by
              unfold blk oneP
              rw [List.length_map, List.length_take]; omega
            rw [List.length_map, List.length_map]
            exact small (by omega)
          · have s9 := sm6.trans (sm8.trans (same_upd nz (o := .lst ((txs ((pool s l).take b) ((gpk s l n m).take i)).map V.str ++ (blk (pn s l (20 + i), oneP s l n)).map V.str))))
            refine ⟨s9, _, z, rfl, ?_⟩
            show upd G8 z _ z = _
            rw [upd_same, txs_snoc ek, List.map_append]
      · obtain ⟨sm6, v6, tx, rfl, htx⟩ := pv
        have el := hA.len
        rw [List.length_map, List.length_range] at el
        rw [show (gpk s l n m).take ys.length = gpk s l n m from List.take_of_length_le (by unfold gpk; rw [List.length_map, List.length_range]; omega)] at htx
        have smB := smT.trans sm6
        have ltx : (txs ((pool s l).take b) (gpk s l n m)).length ≤ 300 := by
          unfold txs
          rw [List.length_append, List.length_take]
          have := txs20 (gpk s l n m) fun x hx => by
            obtain ⟨k, _, rfl⟩ := List.mem_map.mp hx
            show (List.take n _).length ≤ 20
            rw [List.length_take]; omega
          unfold gpk at this ⊢
          rw [List.length_map, List.length_range] at this
          omega
        generalize eTX : txs ((pool s l).take b) (gpk s l n m) = TX at htx ltx
        refine ⟨by show 0 ≤ sizeLine; decide, fun jl njl => ?_⟩
        have w1 := same_upd njl (o := .lst [])
        have e0 := la0 (ds := ds) (k := 96) (many := 21) (by decide)
        have e1' := la1 (ds := ds) (k := 96) (many := 21) (by decide)
        refine ⟨.ref a, rfl, a, ds, _, 21, rfl, ha.same (smB.trans w1), by decide, by decide, _, rfl, tx, _, rfl, .inl (.of (w1 _ _ htx)), _, _, rfl, rfl, .inr ⟨_, rfl, ?_⟩⟩
        obtain ⟨g, eg, g0, g1, g2⟩ := some01 (TX.map V.str).length 1
        rw [eg]
        obtain ⟨M, eM, lM, hM⟩ := mul20 e0 (by omega) g0 g1
        rw [List.length_map] at g2
        refine ⟨_, _, rfl, rfl, .inl ⟨by omega, by omega⟩, _, rfl, by rw [eM]; omega, by rw [eM]; omega, ?_⟩
        rw [eM, Int.toNat_natCast]
        refine for_it (walk_range (lo := 0) (n := M)) (fun i σ G2 => Same G G2 ∧ ∃ (v6 v8 v9 v10 v11 : Option V) (zs : List V) (js : List (List Str)), σ = [some (.ref a), some (.ref pl), some (.ref kt), some (.ref po), some (.ref D), some (.ref tx), v6, some (.ref jl), v8, v9, v10, v11, none, none] ∧ G2 jl = some (.lst zs) ∧ A2 (NwS G jl JoV G2) zs js ∧ (∀ j ∈ js, jokN TX j) ∧ js.length ≤ i)
          ⟨w1, v6, none, none, none, none, [], [], rfl, upd_same, .nil, (fun _ z => by cases z), Nat.le_refl _⟩ (fun _ _ _ _ _ => trivial) (fun i x σ G2 Gx hi pv y => ?_) (fun σ G2 pv => ?_)
        · obtain ⟨sm2, v6, v8, v9, v10, v11, zs, js, rfl, hjl, hJ, hjok, ljs⟩ := pv
          obtain ⟨rfl, rfl⟩ := y
          have lT : 1 < TX.length := by have := g2 (hM (by omega)); omega
          have smX := smB.trans sm2
          refine ⟨by show 0 ≤ sizeLine; decide, fun jt njt => ?_⟩
          have w2 := same_upd njt (o := .lst [])
          have c0 := la0 (ds := ds) (k := 97 + (0 + (i : Int))) (many := 11) (by decide)
          have c1 := la1 (ds := ds) (k := 97 + (0 + (i : Int))) (many := 11) (by decide)
          refine ⟨.ref a, rfl, _, rfl, _, _, rfl, rfl, a, ds, _, 11, rfl, ha.same (smX.trans w2), by omega, by decide, ?_⟩
          obtain ⟨z, ez⟩ : ∃ n : Nat, 2 + la ds (97 + (0 + (i : Int))) 11 = (n : Int) := ⟨(2 + la ds (97 + (0 + (i : Int))) 11).toNat, by omega⟩
          refine ⟨_, _, rfl, rfl, _, rfl, by omega, by omega, ?_⟩
          rw [ez, Int.toNat_natCast]
          refine for_it (walk_range (lo := 0) (n := z)) (fun j σ G3 => Same Gx G3 ∧ ∃ (v10 v11 : Option V) (jj : List Str), σ = [some (.ref a), some (.ref pl), some (.ref kt), some (.ref po), some (.ref D), some (.ref tx), v6, some (.ref jl), some (.int (0 + (i : Int))), some (.ref jt), v10, v11, none, none] ∧ SL G3 jt jj ∧ jj.Nodup ∧ (∀ t ∈ jj, t ∈ TX) ∧ jj.length ≤ j)
            ⟨w2, v10, v11, [], rfl, upd_same, .nil, (fun _ z => by cases z), Nat.le_refl _⟩ (fun _ _ _ _ _ => trivial) (fun j x σ G3 Gy hj pv y => ?_) (fun σ G3 pv => ?_)
          · obtain ⟨sm3, v10, v11, jj, rfl, hjt, hnd, hmem, ljj⟩ := pv
            obtain ⟨rfl, rfl⟩ := y
            have htx3 : SL Gy tx TX := sm3 _ _ (sm2 _ _ htx)
            have h0 := la0 (ds := ds) (k := 98 + (0 + (i : Int))) (many := 60000) (by decide)
            have h1 := la1 (ds := ds) (k := 98 + (0 + (i : Int))) (many := 60000) (by decide)
            refine ⟨_, rfl, .ref a, rfl, _, rfl, _, _, rfl, rfl, a, ds, _, 60000, rfl, ha.same (smX.trans sm3), by omega, by decide, ?_⟩
            have hz : (z : Int) ≤ 12 := by omega
            have b0 : 0 ≤ la ds (98 + (0 + (i : Int))) 60000 * (0 + (j : Int) + 1) + 7 * (0 + (j : Int)) := Int.add_nonneg (Int.mul_nonneg h0 (by omega)) (by omega)
            generalize eL : la ds (98 + (0 + (i : Int))) 60000 = cell at h0 h1 b0
            obtain ⟨c, hc, mc⟩ := at_ex (xs := TX.map V.str) (i := (cell * (0 + (j : Int) + 1) + 7 * (0 + (j : Int))) % (((TX.map V.str).length : Nat) : Int)) (Int.emod_nonneg _ (by rw [List.length_map]; omega)) (Int.emod_lt_of_pos _ (by rw [List.length_map]; omega))
            obtain ⟨qn, hqn, rfl⟩ := List.mem_map.mp mc
            refine ⟨_, rfl, _, _, rfl, rfl, _, _, rfl, rfl, .inl ⟨by omega, by omega⟩, _, rfl, _, _, rfl, rfl, .inl ⟨by decide, by omega⟩, _, _, rfl, rfl, .inl ⟨_, rfl, _, rfl, tx, _, rfl, .inl (.of htx3), _, _, rfl, rfl, by rw [List.length_map]; omega, tx, _, _, _, rfl, rfl, .of htx3, hc, ?_⟩⟩
            refine ⟨_, rfl, .ref jt, rfl, jt, _, rfl, .inl (.of hjt), rfl, flat_strs jj, _, rfl, ?_⟩
            rw [in_strs]
            refine ite2 (fun h => ?_) (fun h => ?_)
            · have hni : qn ∉ jj := fun z => by rw [decide_eq_true z] at h; cases h
              refine ⟨.ref jt, rfl, .inl ⟨rfl, _, .of hjt⟩, _, rfl, jt, _, _, rfl, rfl, hjt, small' (by rw [List.length_map]; omega), ?_⟩
              refine ⟨same_over sm3 njt, _, _, jj ++ [qn], rfl, ?_, ?_, fun t ht => ?_, by rw [List.length_append]; exact Nat.succ_le_succ ljj⟩
              · show upd Gy jt _ jt = _
                rw [upd_same, List.map_append]; rfl
              · exact List.nodup_append.mpr ⟨hnd, List.nodup_cons.mpr ⟨List.not_mem_nil, List.nodup_nil⟩, fun x hx y hy e => by simp at hy; subst hy; subst e; exact hni hx⟩
              · rcases List.mem_append.mp ht with ht | ht
                · exact hmem t ht
                · obtain rfl := List.mem_singleton.mp ht
                  exact hqn
            · exact ⟨sm3, _, _, jj, rfl, hjt, hnd, hmem, by omega⟩
          · obtain ⟨sm3, v10, v11, jj, rfl, hjt, hnd, hmem, ljj⟩ := pv
            have hjl3 := sm3 _ _ hjl
            have hJ3 : A2 (NwS G jl JoV G3) zs js := NwS.all (sx sm3) hJ
            refine ⟨_, rfl, jt, _, rfl, .inl (.of hjt), _, _, rfl, rfl, _, rfl, ite2 (fun h => ?_) (fun h => ?_)⟩
            · have l2 : 2 ≤ jj.length := by
                have := of_decide_eq_true h
                rw [List.length_map] at this
                omega
              have jn : jt ≠ jl := fun z => by rw [z, hjl] at njt; cases njt
              refine ⟨.ref jl, rfl, .inl ⟨rfl, _, .of hjl3⟩, _, rfl, jl, _, _, rfl, rfl, hjl3, small' (by have := hJ.len; omega), ?_⟩
              refine ⟨same_over (sm2.trans sm3) njl, _, _, _, _, _, zs ++ [.ref jt], js ++ [jj], rfl, upd_same, A2.snoc (fun G4 sg => ⟨jt, rfl, sg _ _ (same_none sm2 njt) jn (by rw [upd_ne jn]; exact hjt)⟩) (NwS.all SameX.put hJ3), fun j hj => ?_, by rw [List.length_append]; exact Nat.succ_le_succ ljs⟩
              rcases List.mem_append.mp hj with hj | hj
              · exact hjok j hj
              · obtain rfl := List.mem_singleton.mp hj
                exact ⟨hnd, l2, by omega, hmem⟩
            · exact ⟨sm2.trans sm3, _, _, _, _, _, zs, js, rfl, hjl3, hJ3, hjok, by omega⟩
        · obtain ⟨sm2, v6, v8, v9, v10, v11, zs, js, rfl, hjl, hJ, hjok, ljs⟩ := pv
          have smA : Same H5 G2 := sm6.trans sm2
          have hJo : JoL G2 jl js := ⟨zs, hjl, hJ.mono fun _ _ z => z.at⟩
          refine ⟨_, rfl, _, rfl, by show 0 ≤ sizeLine; decide, fun i1 m1 => ⟨_, rfl, by show 0 ≤ sizeLine; decide, fun l1 m2 => ⟨_, rfl, by show 6 ≤ sizeLine; decide, fun tt m3 => ⟨by show 2 ≤ sizeLine; decide, fun bk m4 => ?_⟩⟩⟩⟩
          have x1 := same_upd m1 (o := .lst [])
          have x2 := same_upd m2 (o := .lst [])
          have x3 := same_upd m3 (o := .tup [.str ("two" : Str), .ref po, .ref i1, .ref D, .ref l1, .ref jl])
          have x4 := same_upd m4 (o := .lst [.ref kt, .ref tt])
          have y34 := x3.trans x4
          have y24 := x2.trans y34
          have y14 := x1.trans y24
          have yA := smA.trans y14
          refine q _ bk s l n m b js (smT.trans yA) ⟨_, upd_same, .cons (hP5.same yA) (.cons ⟨tt, po, i1, D, l1, jl, rfl, .of (x4 _ _ upd_same), yA _ _ hpo5, y24 _ _ upd_same, hPL.same yA, ⟨[], y34 _ _ upd_same, .nil⟩, hJo.same y14⟩ .nil)⟩ ⟨hs, hl, by omega, by omega, by omega, by omega, ?_⟩
          rw [eTX]
          exact hjok
end
end K08
-- M8
namespace K08
open PySem PySem.Spec PyProof.Rows L2
section
variable {P : Program} {w : World} {K : PySem.W.Frag} {mg : Str → Option Value} {base : Heap}
/-! ### more joints -/
theorem pe_revC {X : Cx} {K : PySem.W.Frag} {e : Expr} {te : TE} {k : Nat} {p1 p2 p3 pos : Pos} (hK : X.K = K) (he : PE X e te) : PE X (.Subscript e (.Slice none none (some (.UnaryOp .USub (.Constant (.int 1) k p1) p2)) p3) pos) (tRevL K te) := by
  subst hK
  exact pe_revL he
theorem A2.app {α β : Type} {R : α → β → Prop} : ∀ {as as' : List α} {bs bs' : List β}, A2 R as bs → A2 R as' bs' → A2 R (as ++ as') (bs ++ bs')
  | _, _, _, _, .nil, h => h
  | _, _, _, _, .cons a t, h => .cons a (A2.app t h)
theorem A2.rev {α β : Type} {R : α → β → Prop} : ∀ {as : List α} {bs : List β}, A2 R as bs → A2 R as.reverse bs.reverse
  | _, _, .nil => .nil
  | _, _, .cons a t => by
    rw [List.reverse_cons, List.reverse_cons]
    exact A2.app (A2.rev t) (.cons a .nil)
def jfine (j : List Str) : Prop := j.Nodup ∧ 2 ≤ j.length ∧ j.length ≤ 1000
def jsub (jo : List (List Str)) (j : List Str) : Prop := jfine j ∧ ∃ k ∈ jo, ∀ x ∈ j, x ∈ k
structure MoreOk (jo js : List (List Str)) : Prop where
  len : js.length ≤ 1000
  ok : ∀ j ∈ js, jsub jo j
  all : ∀ k ∈ jo, ∃ j ∈ js, ∀ x ∈ k, x ∈ j
theorem jsub.self {jo : List (List Str)} {j : List Str} (h : ∀ j ∈ jo, jfine j) (hj : j ∈ jo) : jsub jo j := ⟨h j hj, j, hj, fun _ z => z⟩
theorem jfine.rev {j : List Str} (h : jfine j) : jfine j.reverse := ⟨List.pairwise_reverse.mpr (h.1.imp fun ab z => ab z.symm), by rw [List.length_reverse]; exact h.2.1, by rw [List.length_reverse]; exact h.2.2⟩
theorem jsub.rev {jo : List (List Str)} {j : List Str} (h : ∀ j ∈ jo, jfine j) (hj : j ∈ jo) : jsub jo j.reverse := ⟨(h j hj).rev, j, hj, fun _ z => List.mem_reverse.mp z⟩
def sp_law_more (K : PySem.W.Frag) : Sp := fun vs H Q _ => ∃ (a : Addr) (ds : List Int) (v : V) (p : Prt), vs = [.ref a, v] ∧ IL H a ds ∧ PT K H v p ∧ p.jo.length ≤ 400 ∧ (∀ j ∈ p.jo, jfine j) ∧
  ∀ (H' : Hp) (v' : V) (js : List (List Str)), Same H H' → PT K H' v' ⟨p.nm, p.po, p.inn, p.pl, p.ls, js⟩ → MoreOk p.jo js → Q v' H'
theorem ok_law_more (T : Txt K mg) : FnOk P w K mg base CX0 2 T.law_more.a T.law_more.fd ["draws", "part"] (sp_law_more K) := by
  refine T.law_more.F.ok sc_law_more (fun vs H Q E h => ?_) (fun cdv A outer s H vs Q E hr h => ?_)
  · obtain ⟨a, ds, v, p, rfl, _⟩ := h
    rfl
  · obtain ⟨da, ds, v, p, rfl, ha, hp, ljo, hj, q⟩ := h
    refine ⟨_, (pss_cons (ps_setLc (i := 3) (own := [("joint", 2)]) rfl sc_law_more.nd rfl rfl (sw_true rfl rfl rfl (by decide +kernel)) (pi_list (pe_ix ix_tup (pv 1) pe_int (fun _ _ => rfl))) (blkOk_by (N := ["draws", "part", "joint", "joints", "extra", "more"]) (sc := defScope s_law_more) (by decide +kernel)) (fun _ _ _ _ _ => (pg_name (i := 2) sc_law_more.nd rfl (.inl rfl))) (fun _ _ _ _ _ => pts_nil) (fun _ _ _ _ _ => (pe_callTy (T := "list") (r := rListC K) call_listC (by rfl) T.m_list (by decide +kernel) (pa_cons (pv 2) pa_nil))))
      (pss_cons (ps_setLc (i := 4) (own := [("joint", 2)]) rfl sc_law_more.nd rfl rfl (sw_true rfl rfl rfl (by decide +kernel)) (pi_list (pe_slice sl_list (pv 3) po_none (po_some (pe_op op_add pe_int (pe_call (ok_law_at T) (hr.mono (by decide)) (by rfl) T.law_at.g T.law_at.F.kp T.law_at.b .nil pass0 (pa_cons (pv 0) (pa_cons pe_int (pa_cons pe_int pa_nil)))))))) (blkOk_by (N := ["draws", "part", "joint", "joints", "extra", "more"]) (sc := defScope s_law_more) (by decide +kernel)) (fun _ _ _ _ _ => (pg_name (i := 2) sc_law_more.nd rfl (.inl rfl))) (fun _ _ _ _ _ => pts_nil) (fun _ _ _ _ _ => (pe_revC (K := K) rfl (pv 2))))
      (pss_cons (ps_for PassesOwn.never rfl (pi_list (pv 3)) (pg_name (i := 2) sc_law_more.nd rfl (.inl rfl))
        (pss_one (ps_if (pt_cmpR op_gt (pe_callB call_len_seq (by rfl) T.m_len (by decide +kernel) (pa_cons (pv 2) pa_nil)) pe_int (nomark _))
          (pss_one (ps_expr (pe_bm PySem.F.plainAttrs_list PySem.F.slot_list_append PySem.F.type_list_append mt_append (pv 4) (pa_cons (pe_lst (pa_cons (pe_ix ix_list (pv 2) pe_int (fun _ _ => rfl)) (pa_cons (pe_ix ix_list (pv 2) pe_int (fun _ _ => rfl)) pa_nil))) pa_nil))))
          pss_nil)))
      (pss_cons (ps_set (i := 5) sc_law_more.nd rfl (.inl rfl) (pe_op op_cat (pe_op op_cat (pv 4) (pv 3)) (pe_lc (own := [("joint", 2)]) rfl sc_law_more.nd (pi_list (pe_slice sl_list (pv 3) po_none (po_some pe_int))) (blkOk_by (N := ["draws", "part", "joint", "joints", "extra", "more"]) (sc := defScope s_law_more) (by decide +kernel)) (fun _ _ _ _ _ => (pg_name (i := 2) sc_law_more.nd rfl (.inl rfl))) (fun _ _ _ _ _ => pts_nil) (fun _ _ _ _ _ => (pe_callTy (T := "list") (r := rListC K) call_listC (by rfl) T.m_list (by decide +kernel) (pa_cons (pv 2) pa_nil))))))
      (pss_cons (ps_if (pt_cmpR op_gt (pe_callB call_len_seq (by rfl) T.m_len (by decide +kernel) (pa_cons (pv 5) pa_nil)) pe_int (nomark _))
        (pss_one (ps_setLc (i := 5) (own := [("joint", 2)]) rfl sc_law_more.nd rfl rfl (sw_true rfl rfl rfl (by decide +kernel)) (pi_list (pe_revL (pv 3))) (blkOk_by (N := ["draws", "part", "joint", "joints", "extra", "more"]) (sc := defScope s_law_more) (by decide +kernel)) (fun _ _ _ _ _ => (pg_name (i := 2) sc_law_more.nd rfl (.inl rfl))) (fun _ _ _ _ _ => pts_nil) (fun _ _ _ _ _ => (pe_revC (K := K) rfl (pv 2)))))
        pss_nil)
      (pss_one (ps_ret (pe_op op_catT (pe_slice sl_tup (pv 1) po_none (po_some pe_int)) (pe_tup (pa_cons (pv 5) pa_nil)))))))))), ?_⟩
    obtain ⟨a, po, inn, pl, la', jo, rfl, h0, h1, h2, h3, h4, ⟨xs, hjo, hA⟩⟩ := hp
    have lxs := hA.len
    have fin : ∀ (G : Hp) (mo : Addr) (js : List (List Str)), Same H G → JoL G mo js → MoreOk p.jo js → ∀ (p1 p2 p3 : Addr), G p1 = none → upd G p1 (.tup [V.str p.nm, V.ref po, V.ref inn, V.ref pl, V.ref la']) p2 = none → upd (upd G p1 (.tup [V.str p.nm, V.ref po, V.ref inn, V.ref pl, V.ref la'])) p2 (.tup [V.ref mo]) p3 = none →
        Q (.ref p3) (upd (upd (upd G p1 (.tup [V.str p.nm, V.ref po, V.ref inn, V.ref pl, V.ref la'])) p2 (.tup [V.ref mo])) p3 (.tup [V.str p.nm, V.ref po, V.ref inn, V.ref pl, V.ref la', V.ref mo])) := fun G mo js sm hJ ok p1 p2 p3 n1 n2 n3 => by
      have s1 := (same_upd n1 (o := .tup [V.str p.nm, V.ref po, V.ref inn, V.ref pl, V.ref la'])).trans ((same_upd n2 (o := .tup [.ref mo])).trans (same_upd n3 (o := .tup [V.str p.nm, V.ref po, V.ref inn, V.ref pl, V.ref la', V.ref mo])))
      have sG := sm.trans s1
      exact q _ _ js sG ⟨p3, po, inn, pl, la', mo, rfl, .of upd_same, h1.same sG, h2.same sG, h3.same sG, h4.same sG, hJ.same s1⟩ ok
    have eq5 : cutV [V.str p.nm, V.ref po, V.ref inn, V.ref pl, V.ref la', V.ref jo] none (some 5) = [V.str p.nm, V.ref po, V.ref inn, V.ref pl, V.ref la'] := cut_to (L := 5) rfl
    refine ⟨_, rfl, a, _, _, _, rfl, rfl, h0, rfl, jo, rfl, ⟨xs, .of hjo⟩, fun D nD => ?_⟩
    refine lc_fm (walk_list (K := K) (a := jo) (xs := xs)) p.jo some (Stb D JoV) (fun _ _ _ _ s z => Stb.mono s z) lxs.symm nD (fun H' s => .of (s _ _ hjo)) (small' (by omega)) (fun i x G Gx ys j0 ej sm hD y Qt Qf qt qf => ?_) (fun H1 ds1 sm1 hD hR => ?_)
    · obtain ⟨rfl, hx⟩ := y
      obtain ⟨j1, ej1, ja, rfl, hja⟩ := hA.get hx
      rw [ej] at ej1
      obtain rfl := Option.some.inj ej1
      refine ⟨rfl, _, rfl, ja, _, rfl, .inl (.of (sm _ _ hja)), fun l nl => qt _ _ j0 rfl (same_upd nl) (fun G' sg => ⟨l, rfl, sg _ _ (fun z => by rw [z, hD] at nl; cases nl) upd_same⟩)⟩
    · rw [List.filterMap_some] at hR
      have hAD : A2 (JoV H1) ds1 p.jo := hR.mono fun _ _ z => z.at
      clear hR
      have lds := hAD.len
      have c0 := la0 (ds := ds) (k := 91) (many := 3) (by decide)
      have c1 := la1 (ds := ds) (k := 91) (many := 3) (by decide)
      obtain ⟨c, ec⟩ : ∃ c : Nat, 1 + la ds 91 3 = (c : Int) := ⟨(1 + la ds 91 3).toNat, by omega⟩
      refine ⟨_, rfl, .ref da, rfl, da, ds, _, 3, rfl, ha.same sm1, by decide, by decide, _, _, rfl, rfl, _, rfl, D, _, rfl, .of hD, fun sl nsl => ?_⟩
      rw [ec, cut_to rfl]
      refine ⟨sl, rfl, ⟨_, .of upd_same⟩, fun E nE => ?_⟩
      have t1 := same_upd nsl (o := .lst (ds1.take c))
      have hsl : upd H1 sl (.lst (ds1.take c)) sl = some (.lst (ds1.take c)) := upd_same
      have smB := sm1.trans t1
      have hDB := t1 _ _ hD
      have hAB := (A2.take c hAD).mono fun _ _ z => z.same t1
      have hAD1 := hAD.mono fun _ _ z => z.same t1
      generalize upd H1 sl _ = H2 at t1 hsl smB hDB hAB hAD1 nE
      refine lc_fm (walk_list (K := K) (a := sl) (xs := ds1.take c)) (p.jo.take c) (fun j => some j.reverse) (Stb E JoV) (fun _ _ _ _ s z => Stb.mono s z) hAB.len.symm nE (fun H' s => .of (s _ _ hsl)) (small' (by rw [List.length_take]; omega)) (fun i x G Gx ys j0 ej sm hE y Qt Qf qt qf => ?_) (fun H3 es sm3 hE hR => ?_)
      · obtain ⟨rfl, hx⟩ := y
        obtain ⟨j1, ej1, ja, rfl, hja⟩ := hAB.get hx
        rw [ej] at ej1
        obtain rfl := Option.some.inj ej1
        refine ⟨rfl, _, rfl, ja, _, rfl, .of (sm _ _ hja), fun l nl => qt _ _ j0.reverse rfl (same_upd nl) (fun G' sg => ⟨l, rfl, sg _ _ (fun z => by rw [z, hE] at nl; cases nl) (by rw [upd_same, List.map_reverse])⟩)⟩
      · have smC := smB.trans sm3
        have hD3 := sm3 _ _ hDB
        have hAD3 := hAD1.mono fun _ _ z => z.same sm3
        have hDE : D ≠ E := fun z => by rw [z, nE] at hDB; cases hDB
        have nEH := same_none smB nE
        refine ⟨_, rfl, D, rfl, ⟨ds1, .of hD3⟩, ?_⟩
        refine for_it (walk_list (K := K) (a := D) (xs := ds1)) (fun i σ G => Same H2 G ∧ ∃ (v2 : Option V) (es : List V) (js : List (List Str)), σ = [some (.ref da), some (.ref a), v2, some (.ref D), some (.ref E), none] ∧ G E = some (.lst es) ∧ A2 (Stb E JoV G) es js ∧ js.length ≤ 3 + i ∧ ∀ j ∈ js, jsub p.jo j)
          ⟨sm3, none, es, _, rfl, hE, hR, ?_, fun j hj' => ?_⟩ (fun _ _ _ _ z => .of (z.1 _ _ hDB)) (fun i x σ G Gx hi pv y => ?_) (fun σ G pv => ?_)
        · have := List.length_filterMap_le (fun j : List Str => some j.reverse) (p.jo.take c)
          rw [List.length_take] at this
          omega
        · obtain ⟨j0, hj0, e⟩ := List.mem_filterMap.mp hj'
          obtain rfl := Option.some.inj e
          exact jsub.rev hj (List.mem_of_mem_take hj0)
        · obtain ⟨sm4, v2, es, js, rfl, hE, hR, ljs, hok⟩ := pv
          obtain ⟨rfl, hx⟩ := y
          obtain ⟨j0, ej, ja, rfl, hja⟩ := hAD1.get hx
          have mj := mem_at ej
          have hja4 : SL Gx ja j0 := sm4 _ _ hja
          refine ⟨_, rfl, ja, _, rfl, .inl (.of hja4), _, _, rfl, rfl, _, rfl, ite2 (fun h => ?_) (fun h => ?_)⟩
          · have l3 : 2 < j0.length := by have := of_decide_eq_true h; rw [List.length_map] at this; omega
            obtain ⟨nd0, _, lj⟩ := hj j0 mj
            match j0, l3, nd0, lj, mj, hja4 with
            | x :: y :: z :: r, _, nd0, lj, mj, hja4 =>
              have hxz : x ≠ z := fun e => by subst e; simp at nd0
              refine ⟨.ref E, rfl, .inl ⟨rfl, _, .of hE⟩, _, rfl, ja, _, _, _, rfl, rfl, .of hja4, (by exact atI_nat (j := 0) rfl), _, rfl, ja, _, _, _, rfl, rfl, .of hja4, (by exact atI_nat (j := 2) rfl), by show 2 ≤ sizeLine; decide, fun l nl => ?_⟩
              have lE : l ≠ E := fun z => by rw [z, hE] at nl; cases nl
              refine ⟨E, _, _, rfl, rfl, same_upd nl _ _ hE, small' (by have := hR.len; have := hAD1.len; omega), ?_⟩
              refine ⟨same_over (sm4.trans (same_upd nl)) nE, _, es ++ [.ref l], js ++ [[x, z]], rfl, upd_same, A2.snoc (fun G' sg => ⟨l, rfl, sg _ _ lE (by rw [upd_ne lE]; exact upd_same)⟩) (Stb.all ((sx (same_upd nl)).trans SameX.put) hR), by rw [List.length_append]; exact Nat.succ_le_succ ljs, fun j hj' => ?_⟩
              rcases List.mem_append.mp hj' with hj' | hj'
              · exact hok j hj'
              · obtain rfl := List.mem_singleton.mp hj'
                refine ⟨⟨by simp [hxz], Nat.le_refl _, by show 2 ≤ 1000; decide⟩, _, mj, fun w hw => ?_⟩
                simp at hw
                rcases hw with rfl | rfl <;> simp
          · exact ⟨sm4, _, es, js, rfl, hE, hR, by omega, hok⟩
        · obtain ⟨sm4, v2, es, js, rfl, hE, hR, ljs, hok⟩ := pv
          have hAE : A2 (JoV G) es js := hR.mono fun _ _ z => z.at
          clear hR
          have hD4 := sm4 _ _ hDB
          have hAD4 := hAD1.mono fun _ _ z => z.same sm4
          have smG := smB.trans sm4
          refine ⟨_, rfl, _, rfl, E, D, _, _, rfl, rfl, hE, hD4, ?_, fun z nz => ?_⟩
          · have := hAE.len
            exact small (by omega)
          · have x1 := same_upd nz (o := .lst (es ++ ds1))
            have hz : upd G z (.lst (es ++ ds1)) z = some (.lst (es ++ ds1)) := upd_same
            have hAz := (A2.app hAE hAD4).mono fun _ _ y => y.same x1
            have hDz := x1 _ _ hD4
            have smz := smG.trans x1
            have hADz := hAD4.mono fun _ _ y => y.same x1
            generalize upd G z _ = Gz at x1 hz hAz hDz smz hADz
            refine ⟨_, rfl, _, rfl, D, _, rfl, .of hDz, fun s2 ns2 => ?_⟩
            rw [show cutV ds1 none (some 2) = ds1.take 2 from cut_to (L := 2) rfl]
            refine ⟨s2, rfl, ⟨_, .of upd_same⟩, fun F nF => ?_⟩
            have x2 := same_upd ns2 (o := .lst (ds1.take 2))
            have hs2 : upd Gz s2 (.lst (ds1.take 2)) s2 = some (.lst (ds1.take 2)) := upd_same
            have hA2 := (A2.take 2 hADz).mono fun _ _ z => z.same x2
            have smy := smz.trans x2
            have hzy := x2 _ _ hz
            have hAzy := hAz.mono fun _ _ y => y.same x2
            have hDy := x2 _ _ hDz
            have hADy := hADz.mono fun _ _ y => y.same x2
            generalize upd Gz s2 _ = Gy at x2 hs2 hA2 smy hzy hAzy hDy hADy nF
            refine lc_fm (walk_list (K := K) (a := s2) (xs := ds1.take 2)) (p.jo.take 2) some (Stb F JoV) (fun _ _ _ _ s z => Stb.mono s z) hA2.len.symm nF (fun H' s => .of (s _ _ hs2)) (small' (by rw [List.length_take]; omega)) (fun i x G Gx ys j0 ej sm hF y Qt Qf qt qf => ?_) (fun H5 fs sm5 hF hR => ?_)
            · obtain ⟨rfl, hx⟩ := y
              obtain ⟨j1, ej1, ja, rfl, hja⟩ := hA2.get hx
              rw [ej] at ej1
              obtain rfl := Option.some.inj ej1
              refine ⟨rfl, _, rfl, ja, _, rfl, .inl (.of (sm _ _ hja)), fun l nl => qt _ _ j0 rfl (same_upd nl) (fun G' sg => ⟨l, rfl, sg _ _ (fun z => by rw [z, hF] at nl; cases nl) upd_same⟩)⟩
            · rw [List.filterMap_some] at hR
              have hAF : A2 (JoV H5) fs (p.jo.take 2) := hR.mono fun _ _ z => z.at
              clear hR
              have hz5 := sm5 _ _ hzy
              have hAz5 := hAzy.mono fun _ _ y => y.same sm5
              have hD5 := sm5 _ _ hDy
              have hAD5 := hADy.mono fun _ _ y => y.same sm5
              have sm6 := smy.trans sm5
              have l1 := hAE.len
              have l2 := hAF.len
              rw [List.length_take] at l2
              refine ⟨z, F, _, _, rfl, rfl, hz5, hF, small (by rw [List.length_append]; omega), fun mo nmo => ?_⟩
              have x6 := same_upd nmo (o := .lst ((es ++ ds1) ++ fs))
              have hJ : JoL (upd H5 mo (.lst ((es ++ ds1) ++ fs))) mo ((js ++ p.jo) ++ p.jo.take 2) := ⟨_, upd_same, (A2.app hAz5 hAF).mono fun _ _ y => y.same x6⟩
              have hok1 : MoreOk p.jo ((js ++ p.jo) ++ p.jo.take 2) := by
                refine ⟨by rw [List.length_append, List.length_append, List.length_take]; omega, fun j hj' => ?_, fun k hk => ⟨k, List.mem_append_left _ (List.mem_append_right _ hk), fun _ z => z⟩⟩
                rcases List.mem_append.mp hj' with hj' | hj'
                · rcases List.mem_append.mp hj' with hj' | hj'
                  · exact hok j hj'
                  · exact jsub.self hj hj'
                · exact jsub.self hj (List.mem_of_mem_take hj')
              have sm7 := sm6.trans x6
              have hD6 := x6 _ _ hD5
              have hAD6 := hAD5.mono fun _ _ y => y.same x6
              have hmo : upd H5 mo (.lst ((es ++ ds1) ++ fs)) mo = some (.lst ((es ++ ds1) ++ fs)) := upd_same
              generalize upd H5 mo _ = H6 at x6 hJ sm7 hD6 hAD6 hmo
              refine ⟨_, rfl, mo, _, rfl, .inl (.of hmo), _, _, rfl, rfl, _, rfl, ite2 (fun h => ?_) (fun h => ?_)⟩
              · refine ⟨_, rfl, D, _, rfl, .of hD6, fun rv nrv => ?_⟩
                have x7 := same_upd nrv (o := .lst ds1.reverse)
                refine ⟨rv, rfl, ⟨_, .of upd_same⟩, fun W nW => ?_⟩
                have hrv : upd H6 rv (.lst ds1.reverse) rv = some (.lst ds1.reverse) := upd_same
                have hAr := (A2.rev hAD6).mono fun _ _ z => z.same x7
                have sm8 := sm7.trans x7
                generalize upd H6 rv _ = H7 at x7 hrv hAr sm8 nW
                refine lc_fm (walk_list (K := K) (a := rv) (xs := ds1.reverse)) p.jo.reverse (fun j => some j.reverse) (Stb W JoV) (fun _ _ _ _ s z => Stb.mono s z) hAr.len.symm nW (fun H' s => .of (s _ _ hrv)) (small' (by rw [List.length_reverse]; omega)) (fun i x G Gx ys j0 ej sm hW y Qt Qf qt qf => ?_) (fun H9 ws sm9 hW hR => ?_)
                · obtain ⟨rfl, hx⟩ := y
                  obtain ⟨j1, ej1, ja, rfl, hja⟩ := hAr.get hx
                  rw [ej] at ej1
                  obtain rfl := Option.some.inj ej1
                  refine ⟨rfl, _, rfl, ja, _, rfl, .of (sm _ _ hja), fun l nl => qt _ _ j0.reverse rfl (same_upd nl) (fun G' sg => ⟨l, rfl, sg _ _ (fun z => by rw [z, hW] at nl; cases nl) (by rw [upd_same, List.map_reverse])⟩)⟩
                · have smW := sm8.trans sm9
                  have em : p.jo.reverse.filterMap (fun j : List Str => some j.reverse) = p.jo.reverse.map List.reverse := by
                    rw [← List.filterMap_eq_map]; rfl
                  rw [em] at hR
                  have hJW : JoL H9 W (p.jo.reverse.map List.reverse) := ⟨ws, hW, hR.mono fun _ _ z => z.at⟩
                  have hok2 : MoreOk p.jo (p.jo.reverse.map List.reverse) := by
                    refine ⟨by rw [List.length_map, List.length_reverse]; omega, fun j hj' => ?_, fun k hk => ⟨k.reverse, List.mem_map_of_mem (List.mem_reverse.mpr hk), fun _ z => List.mem_reverse.mpr z⟩⟩
                    obtain ⟨k, hk, rfl⟩ := List.mem_map.mp hj'
                    exact jsub.rev hj (List.mem_reverse.mp hk)
                  refine ⟨_, rfl, _, rfl, a, _, rfl, Same.seqT smW h0, by show ¬ (HT.sIx 6 0 none = 0 ∧ HT.sIx 6 6 (some 5) = 6); decide, fun p1 np1 => ?_⟩
                  rw [eq5]
                  refine ⟨_, rfl, by show 1 ≤ sizeLine; decide, fun p2 np2 => ?_⟩
                  refine ⟨p1, p2, _, _, rfl, rfl, .of ((same_upd np2) _ _ upd_same), .of upd_same, (fun z => by cases z), by show 6 ≤ sizeLine; decide, (fun z => by cases z), fun _ p3 np3 => ?_⟩
                  exact fin _ W _ smW hJW hok2 p1 p2 p3 np1 np2 np3
              · refine ⟨_, rfl, _, rfl, a, _, rfl, Same.seqT sm7 h0, by show ¬ (HT.sIx 6 0 none = 0 ∧ HT.sIx 6 6 (some 5) = 6); decide, fun p1 np1 => ?_⟩
                rw [eq5]
                refine ⟨_, rfl, by show 1 ≤ sizeLine; decide, fun p2 np2 => ?_⟩
                refine ⟨p1, p2, _, _, rfl, rfl, .of ((same_upd np2) _ _ upd_same), .of upd_same, (fun z => by cases z), by show 6 ≤ sizeLine; decide, (fun z => by cases z), fun _ p3 np3 => ?_⟩
                exact fin _ mo _ sm7 hJ hok1 p1 p2 p3 np1 np2 np3
end
end K08
-- V8
namespace K08
open PySem PySem.Spec PyProof.Rows L2
section
variable {P : Program} {w : World} {K : PySem.W.Frag} {mg : Str → Option Value} {base : Heap}
end
/-! ### data and their texts -/
/-- may be shown and compared; a text of at most n signs -/
structure Gd (k n : Nat) (d : PyData) : Prop where
  sh : d.showable = true
  lay : d.canLay0 = true
  dep : d.depth ≤ k
  len : d.shown.length ≤ n
def tot (ts : List Str) : Nat := (ts.map fun t => t.length + 2).sum
theorem textFrom_tot : ∀ (ts : List Str) (k : Nat) (acc : Str), (textFrom k acc ts).length ≤ acc.length + tot ts
  | [], k, acc => Nat.le_add_right _ _
  | t :: r, k, acc => by
    have h := textFrom_tot r (k + 1) (acc ++ (if k > 0 then ", " else "" : String) ++ t)
    rw [Str.length_append, Str.length_append] at h
    have e : ((if k > 0 then ", " else "" : String) : Str).length ≤ 2 := by split <;> decide +kernel
    show (textFrom (k + 1) (acc ++ (if k > 0 then ", " else "" : String) ++ t) r).length ≤ _
    have e2 : tot (t :: r) = t.length + 2 + tot r := by unfold tot; rw [List.map_cons, List.sum_cons]
    omega
theorem join_tot : ∀ ts : List Str, (Str.join ", " ts).length ≤ tot ts
  | [] => Nat.zero_le _
  | [x] => by show x.length ≤ _; unfold tot; simp
  | x :: y :: r => by
    have h := join_tot (y :: r)
    show (x ++ ", " ++ Str.join ", " (y :: r)).length ≤ _
    rw [Str.length_append, Str.length_append]
    have e2 : tot (x :: y :: r) = x.length + 2 + tot (y :: r) := by unfold tot; rw [List.map_cons, List.sum_cons]
    have e3 : ((", " : String) : Str).length = 2 := rfl
    omega
/-- all of them, with all their texts together -/
inductive GdAll (k : Nat) : Nat → List PyData → Prop
  | nil : GdAll k 0 []
  | cons {n m : Nat} {d : PyData} {ds : List PyData} : Gd k n d → GdAll k m ds → GdAll k (n + 2 + m) (d :: ds)
theorem GdAll.facts {k : Nat} : ∀ {n : Nat} {ds : List PyData}, GdAll k n ds → PyData.showableAll ds = true ∧ PyData.canLayAll0 ds = true ∧ PyData.depthAll ds ≤ k ∧ tot (PyData.shownAll ds) ≤ n
  | _, _, .nil => ⟨rfl, rfl, Nat.zero_le _, Nat.le_refl _⟩
  | _, _, .cons (d := d) (ds := ds) h t => by
    obtain ⟨h1, h2, h3, h4⟩ := t.facts
    refine ⟨?_, ?_, ?_, ?_⟩
    · show (PyData.showable d && PyData.showableAll ds) = true
      rw [h.sh, h1]; rfl
    · show (PyData.canLay0 d && PyData.canLayAll0 ds) = true
      rw [h.lay, h2]; rfl
    · show max (PyData.depth d) (PyData.depthAll ds) ≤ k
      exact Nat.max_le.mpr ⟨h.dep, h3⟩
    · show tot (PyData.shown d :: PyData.shownAll ds) ≤ _
      unfold tot at h4 ⊢
      rw [List.map_cons, List.sum_cons]
      have := h.len
      omega
theorem GdAll.map {α : Type} {k n : Nat} {f : α → PyData} : ∀ {xs : List α}, (∀ x ∈ xs, Gd k n (f x)) → GdAll k (xs.length * (n + 2)) (xs.map f)
  | [], _ => by rw [List.length_nil, Nat.zero_mul]; exact .nil
  | x :: r, h => by
    rw [List.length_cons, Nat.succ_mul, Nat.add_comm]
    exact .cons (h x List.mem_cons_self) (GdAll.map fun y hy => h y (List.mem_cons_of_mem _ hy))
theorem Gd.list {k n : Nat} {ds : List PyData} (h : GdAll k n ds) : Gd (k + 1) (n + 2) (.list ds) := by
  obtain ⟨h1, h2, h3, h4⟩ := h.facts
  refine ⟨h1, h2, Nat.succ_le_succ h3, ?_⟩
  show (listText (PyData.shownAll ds)).length ≤ _
  unfold listText
  rw [Str.length_append]
  have := textFrom_tot (PyData.shownAll ds) 0 "["
  have e1 : (("[" : String) : Str).length = 1 := rfl
  have e2 : (("]" : String) : Str).length = 1 := rfl
  omega
theorem Gd.tup {k n : Nat} {ds : List PyData} (h : GdAll k n ds) : Gd (k + 1) (n + 3) (.tuple ds) := by
  obtain ⟨h1, h2, h3, h4⟩ := h.facts
  refine ⟨h1, h2, Nat.succ_le_succ h3, ?_⟩
  show (tupleText (PyData.shownAll ds)).length ≤ _
  unfold tupleText
  rw [Str.length_append, Str.length_append]
  have := join_tot (PyData.shownAll ds)
  have e1 : (("(" : String) : Str).length = 1 := rfl
  have e2 : ((if (PyData.shownAll ds).length == 1 then ",)" else ")" : String) : Str).length ≤ 2 := by split <;> decide +kernel
  omega
theorem Gd.mono {k l n m : Nat} {d : PyData} (h : Gd k n d) (a : k ≤ l) (b : n ≤ m) : Gd l m d := ⟨h.sh, h.lay, Nat.le_trans h.dep a, Nat.le_trans h.len b⟩
theorem Gd.int {i : Int} (h : i.natAbs < 10 ^ 8) : Gd 0 9 (.int i) := by
  refine ⟨decide_eq_true (log_small (by omega)), rfl, Nat.le_refl _, ?_⟩
  show (Str.ofString (toString i)).length ≤ 9
  rw [PySem.ofString_length]
  exact int_text_length_le10 (k := 8) (by decide) h
theorem Gd.str {n : Nat} {s : Str} (h : GS n s) : Gd 0 (10 * n + 2) (.str s) := by
  refine ⟨rfl, str_ok h, Nat.le_refl _, ?_⟩
  refine Nat.le_trans (StrLaws.reprText_len s fun c hc => Nat.lt_trans (h.2 c hc) (by decide)) ?_
  have := h.1
  omega
/-! ### the data of a book -/
def dTm (t : Trm) : PyData := .tuple [dH t.h, .int (t.k : Nat), .str t.q]
def dLw (l : Lw) : PyData := if l.ex then .tuple [.str "exact", .list (l.ts.map dTm), .str l.src] else .tuple [.str "sized", .int (l.k : Nat), .str l.q, .list (l.ts.map dTm), .str l.src]
def dPl (p : Str × Str) : PyData := .tuple [.str p.1, .str p.2]
def dJo (j : List Str) : PyData := .list (j.map PyData.str)
def dJs (js : List (List Str)) : PyData := .list (js.map dJo)
def dPt (p : Prt) : PyData := .tuple [.str p.nm, .list (p.po.map PyData.str), .list (p.inn.map PyData.str), .list (p.pl.map dPl), .list (p.ls.map dLw), dJs p.jo]
def dBk (bk : List Prt) : PyData := .list (bk.map dPt)
section
variable {K : PySem.W.Frag} {H : Hp}
theorem dpAll_of {α : Type} {R : V → α → Prop} {f : α → PyData} (h : ∀ v a, R v a → Dp K H v (f a)) : ∀ {xs : List V} {as : List α}, A2 R xs as → DpAll K H xs (as.map f)
  | _, _, .nil => .nil
  | _, _, .cons a t => .cons (h _ _ a) (dpAll_of h t)
theorem dp_strs : ∀ qs : List Str, DpAll K H (qs.map V.str) (qs.map PyData.str)
  | [] => .nil
  | q :: r => .cons (.str q) (dp_strs r)
theorem dp_sl {a : Addr} {ss : List Str} (h : SL H a ss) : Dp K H (.ref a) (.list (ss.map PyData.str)) := .lst (.of h) (dp_strs _)
theorem dp_tm {v : V} {t : Trm} (h : TmV K H v t) : Dp K H v (dTm t) := by
  obtain ⟨a, rfl, q⟩ := h
  refine .tup q (.cons ?_ (.cons (.int _) (.cons (.str _) .nil)))
  cases t.h with
  | inl n => exact .int n
  | inr s => exact .str s
theorem dp_ts {p : Addr} {ts : List Trm} (h : TsL K H p ts) : Dp K H (.ref p) (.list (ts.map dTm)) := let ⟨_, hx, hT⟩ := h; .lst (.of hx) (dpAll_of (f := dTm) (fun _ _ => dp_tm) hT)
theorem dp_lw {v : V} {l : Lw} (h : LW K H v l) : Dp K H v (dLw l) := by
  obtain ⟨a, p, rfl, hT, ⟨e, q⟩ | ⟨e, q⟩⟩ := h
  · unfold dLw
    rw [e]
    exact .tup q (.cons (.str _) (.cons (dp_ts hT) (.cons (.str _) .nil)))
  · unfold dLw
    rw [e]
    exact .tup q (.cons (.str _) (.cons (.int _) (.cons (.str _) (.cons (dp_ts hT) (.cons (.str _) .nil)))))
theorem dp_ls {p : Addr} {ls : List Lw} (h : LsL K H p ls) : Dp K H (.ref p) (.list (ls.map dLw)) := let ⟨_, hx, hT⟩ := h; .lst (.of hx) (dpAll_of (f := dLw) (fun _ _ => dp_lw) hT)
theorem dp_pl {v : V} {p : Str × Str} (h : PlV K H v p) : Dp K H v (dPl p) := by
  obtain ⟨a, rfl, q⟩ := h
  exact .tup q (.cons (.str _) (.cons (.str _) .nil))
theorem dp_pls {p : Addr} {ps : List (Str × Str)} (h : PlL K H p ps) : Dp K H (.ref p) (.list (ps.map dPl)) := let ⟨_, hx, hT⟩ := h; .lst (.of hx) (dpAll_of (f := dPl) (fun _ _ => dp_pl) hT)
theorem dp_jo {v : V} {j : List Str} (h : JoV H v j) : Dp K H v (dJo j) := let ⟨_, e, q⟩ := h; e ▸ dp_sl q
theorem dp_js {p : Addr} {js : List (List Str)} (h : JoL H p js) : Dp K H (.ref p) (dJs js) := let ⟨_, hx, hT⟩ := h; .lst (.of hx) (dpAll_of (f := dJo) (fun _ _ => dp_jo) hT)
theorem dp_pt {v : V} {p : Prt} (h : PT K H v p) : Dp K H v (dPt p) := by
  obtain ⟨a, po, inn, pl, la, jo, rfl, h0, h1, h2, h3, h4, h5⟩ := h
  exact .tup h0 (.cons (.str _) (.cons (dp_sl h1) (.cons (dp_sl h2) (.cons (dp_pls h3) (.cons (dp_ls h4) (.cons (dp_js h5) .nil))))))
theorem dp_bk {b : Addr} {bk : List Prt} (h : BK K H b bk) : Dp K H (.ref b) (dBk bk) := let ⟨_, hx, hT⟩ := h; .lst (.of hx) (dpAll_of (f := dPt) (fun _ _ => dp_pt) hT)
end
/-- bounds of a law -/
structure BL (l : Lw) : Prop where
  src : GS 40 l.src
  sz : l.ex = false → l.k < 4 ∧ GS 40 l.q
  many : l.ts.length ≤ 4
  ts : ∀ t ∈ l.ts, t.k < 4 ∧ GS 40 t.q ∧ ((∃ n : Int, t.h = .inl n ∧ n.natAbs ≤ 1000000) ∨ ∃ s : Str, t.h = .inr s ∧ GS 40 s)
/-- bounds of a part -/
structure BP (p : Prt) : Prop where
  nm : GS 40 p.nm
  po : p.po.length ≤ 20 ∧ ∀ x ∈ p.po, GS 40 x
  inn : p.inn.length ≤ 20 ∧ ∀ x ∈ p.inn, GS 40 x
  pl : p.pl.length ≤ 20 ∧ ∀ x ∈ p.pl, GS 40 x.1 ∧ GS 40 x.2
  ls : p.ls.length ≤ 3 ∧ ∀ l ∈ p.ls, BL l
  jo : p.jo.length ≤ 20 ∧ ∀ j ∈ p.jo, j.length ≤ 20 ∧ ∀ t ∈ j, GS 40 t
theorem gd_s {s : Str} (h : GS 40 s) : Gd 0 402 (.str s) := Gd.str (n := 40) h
theorem gd_strs {ss : List Str} (l : ss.length ≤ 20) (h : ∀ x ∈ ss, GS 40 x) : Gd 1 8082 (.list (ss.map PyData.str)) :=
  (Gd.list (GdAll.map (n := 402) fun q hq => gd_s (h q hq))).mono (Nat.le_refl _) (by omega)
theorem gd_tm {t : Trm} (hk : t.k < 4) (hq : GS 40 t.q) (hh : (∃ n : Int, t.h = .inl n ∧ n.natAbs ≤ 1000000) ∨ ∃ s : Str, t.h = .inr s ∧ GS 40 s) : Gd 1 830 (dTm t) := by
  have h1 : Gd 0 402 (dH t.h) := by
    rcases hh with ⟨n, e, b⟩ | ⟨s, e, b⟩
    · rw [e]
      exact (Gd.int (Nat.lt_of_le_of_lt b (by decide))).mono (Nat.le_refl _) (by decide)
    · rw [e]; exact gd_s b
  exact (Gd.tup (.cons h1 (.cons (Gd.int (i := ((t.k : Nat) : Int)) (by omega)) (.cons (gd_s hq) .nil)))).mono (Nat.le_refl _) (by decide)
theorem gd_lw {l : Lw} (h : BL l) : Gd 3 6000 (dLw l) := by
  have hl : Gd 2 3340 (.list (l.ts.map dTm)) := (Gd.list (GdAll.map fun t ht => gd_tm (h.ts t ht).1 (h.ts t ht).2.1 (h.ts t ht).2.2)).mono (Nat.le_refl _) (by have := h.many; omega)
  have hs : Gd 2 402 (.str l.src) := (gd_s h.src).mono (by decide) (Nat.le_refl _)
  unfold dLw
  cases e : l.ex with
  | true =>
    have he : Gd 2 402 (.str "exact") := (gd_s ⟨by decide +kernel, by decide +kernel⟩).mono (by decide) (Nat.le_refl _)
    exact (Gd.tup (.cons he (.cons hl (.cons hs .nil)))).mono (Nat.le_refl _) (by decide)
  | false =>
    have he : Gd 2 402 (.str "sized") := (gd_s ⟨by decide +kernel, by decide +kernel⟩).mono (by decide) (Nat.le_refl _)
    obtain ⟨hk, hq⟩ := h.sz e
    exact (Gd.tup (.cons he (.cons ((Gd.int (i := ((l.k : Nat) : Int)) (by omega)).mono (by decide) (Nat.le_refl _)) (.cons ((gd_s hq).mono (by decide) (Nat.le_refl _)) (.cons hl (.cons hs .nil)))))).mono (Nat.le_refl _) (by decide)
theorem gd_js {js : List (List Str)} (l : js.length ≤ 20) (h : ∀ j ∈ js, j.length ≤ 20 ∧ ∀ t ∈ j, GS 40 t) : Gd 2 161682 (dJs js) :=
  (Gd.list (GdAll.map fun j hj => gd_strs (h j hj).1 (h j hj).2)).mono (Nat.le_refl _) (by omega)
theorem gd_pt {p : Prt} (h : BP p) : Gd 5 220000 (dPt p) := by
  have h1 : Gd 4 402 (.str p.nm) := (gd_s h.nm).mono (by decide) (Nat.le_refl _)
  have h2 := (gd_strs h.po.1 h.po.2).mono (l := 4) (by decide) (Nat.le_refl _)
  have h3 := (gd_strs h.inn.1 h.inn.2).mono (l := 4) (by decide) (Nat.le_refl _)
  have h4 : Gd 4 16300 (.list (p.pl.map dPl)) := (Gd.list (GdAll.map (f := dPl) fun x hx => Gd.tup (.cons (gd_s (h.pl.2 x hx).1) (.cons (gd_s (h.pl.2 x hx).2) .nil)))).mono (by decide) (by have := h.pl.1; omega)
  have h5 : Gd 4 18100 (.list (p.ls.map dLw)) := (Gd.list (GdAll.map fun l hl => gd_lw (h.ls.2 l hl))).mono (by decide) (by have := h.ls.1; omega)
  have h6 := (gd_js h.jo.1 h.jo.2).mono (l := 4) (by decide) (Nat.le_refl _)
  exact (Gd.tup (.cons h1 (.cons h2 (.cons h3 (.cons h4 (.cons h5 (.cons h6 .nil))))))).mono (Nat.le_refl _) (by decide)
theorem gd_bk {bk : List Prt} (l : bk.length ≤ 11) (h : ∀ p ∈ bk, BP p) : Gd 6 2500000 (dBk bk) :=
  (Gd.list (GdAll.map fun p hp => gd_pt (h p hp))).mono (Nat.le_refl _) (by omega)
/-- rows of texts, longer ones -/
theorem gd_rows {js : List (List Str)} (l : js.length ≤ 500) (h : ∀ j ∈ js, ∀ t ∈ j, GS 60 t) (h2 : ∀ j ∈ js, j.length ≤ 500) : (dJs js).canLay0 = true ∧ (dJs js).depth ≤ 64 := by
  have g1 : ∀ j ∈ js, Gd 1 302002 (dJo j) := fun j hj => (Gd.list (GdAll.map (n := 602) fun t ht => Gd.str (n := 60) (h j hj t ht))).mono (Nat.le_refl _) (by have := h2 j hj; omega)
  have g := Gd.list (GdAll.map g1)
  exact ⟨g.lay, Nat.le_trans g.dep (by decide)⟩
end K08
-- U8
namespace K08
open PySem PySem.Spec PyProof.Rows L2
section
variable {P : Program} {w : World} {K : PySem.W.Frag} {mg : Str → Option Value} {base : Heap}
/-! ### what the law knows of a book -/
structure BkOk (bk : List Prt) : Prop where
  many : bk.length ≤ 11
  nd : (bk.map (·.nm)).Nodup
  gn : ∀ x ∈ bk, GS 20 x.nm
  nob : ∀ x ∈ bk, x.nm ≠ ("nobody" : Str)
  part : ∀ p ∈ bk, ∃ pk, (∀ x ∈ pk, x.2 ∈ bk ∧ x.2.nm ≠ p.nm) ∧ Pok p pk
  bp : ∀ p ∈ bk, BP p
/-- no dot in it -/
def nodot (s : Str) : Prop := 46 ∉ s.cps.toList
theorem dot_cut {l l' r r' : List Nat} (h : 46 ∉ l) (h' : 46 ∉ l') (e : l ++ 46 :: r = l' ++ 46 :: r') : l = l' ∧ r = r' := by
  induction l generalizing l' with
  | nil =>
    cases l' with
    | nil => exact ⟨rfl, (List.cons.inj e).2⟩
    | cons x t => exact absurd (List.mem_cons.mpr (.inl (List.cons.inj e).1)) h'
  | cons y s ih =>
    cases l' with
    | nil => exact absurd (List.mem_cons.mpr (.inl (List.cons.inj e).1.symm)) h
    | cons x t =>
      obtain ⟨e1, e2⟩ := List.cons.inj e
      obtain ⟨a, b⟩ := ih (fun z => h (List.mem_cons_of_mem _ z)) (fun z => h' (List.mem_cons_of_mem _ z)) e2
      exact ⟨by rw [e1, a], b⟩
theorem cps_dot (a b : Str) : (a ++ ("." : Str) ++ b).cps.toList = a.cps.toList ++ 46 :: b.cps.toList := by
  rw [Str.cps_append, Array.toList_append, Str.cps_append, Array.toList_append, List.append_assoc]
  rfl
theorem str_ext {a b : Str} (h : a.cps.toList = b.cps.toList) : a = b := by
  have h := Array.toList_inj.mp h
  cases a; cases b
  exact congrArg _ h
theorem dot_inj {a a' b b' : Str} (h : nodot a) (h' : nodot a') (e : a ++ ("." : Str) ++ b = a' ++ ("." : Str) ++ b') : a = a' ∧ b = b' := by
  have e2 : (a ++ ("." : Str) ++ b).cps.toList = (a' ++ ("." : Str) ++ b').cps.toList := by rw [e]
  rw [cps_dot, cps_dot] at e2
  obtain ⟨x, y⟩ := dot_cut h h' e2
  exact ⟨str_ext x, str_ext y⟩
theorem dot_in (a b : Str) : 46 ∈ (a ++ ("." : Str) ++ b).cps.toList := by
  rw [cps_dot]
  exact List.mem_append_right _ List.mem_cons_self
theorem txs_nodup {po : List Str} {pk : List (Str × Prt)} (h1 : po.Nodup) (h2 : ∀ x ∈ po, nodot x) (h3 : (pk.map (·.1)).Nodup) (h4 : ∀ x ∈ pk, nodot x.1) (h5 : ∀ x ∈ pk, x.2.po.Nodup) : (txs po pk).Nodup := by
  unfold txs
  refine List.nodup_append.mpr ⟨h1, List.pairwise_flatMap.mpr ⟨fun x hx => ?_, ?_⟩, fun x hx y hy e => ?_⟩
  · exact List.Pairwise.map _ (fun a b ne e => ne (dot_inj (h4 x hx) (h4 x hx) e).2) (h5 x hx)
  · have h3' : pk.Pairwise fun a b => a.1 ≠ b.1 := List.pairwise_map.mp h3
    refine (List.Pairwise.and_mem.mp h3').imp fun {a b} ⟨ma, mb, ne⟩ x hx y hy e => ?_
    obtain ⟨q, _, rfl⟩ := List.mem_map.mp hx
    obtain ⟨r, _, rfl⟩ := List.mem_map.mp hy
    exact ne (dot_inj (h4 a ma) (h4 b mb) e).1
  · obtain ⟨z, _, hy⟩ := List.mem_flatMap.mp hy
    obtain ⟨q, _, rfl⟩ := List.mem_map.mp hy
    have := h2 x hx
    rw [e] at this
    exact this (dot_in _ _)
theorem tl_nodot : ∀ (l : Fin 2) (i : Fin 52), 46 ∉ (tl l.val i.val).cps.toList := by decide +kernel
theorem pn_nodot {s l i : Nat} (hl : l < 2) (hi : i < 52) : nodot (pn s l i) := by
  unfold nodot pn
  rw [Str.cps_append, Array.toList_append]
  intro h
  rcases List.mem_append.mp h with h | h
  · have : (46 : Nat) = 97 + (s + 7 * i) % 26 := List.mem_singleton.mp h
    omega
  · exact tl_nodot ⟨l, hl⟩ ⟨i, hi⟩ h
theorem pool_nodup {s l : Nat} (hl : l < 2) : (pool s l).Nodup := by
  unfold pool
  refine List.pairwise_map.mpr ((List.Pairwise.and_mem.mp List.nodup_range).imp fun {a b} ⟨ma, mb, ne⟩ e => ne (pn_inj hl (List.mem_range.mp ma) (List.mem_range.mp mb) e))
theorem pool_nodot {s l : Nat} (hl : l < 2) : ∀ x ∈ pool s l, nodot x := fun x hx => by
  obtain ⟨i, hi, rfl⟩ := List.mem_map.mp hx
  exact pn_nodot hl (List.mem_range.mp hi)
theorem take_nodup {α : Type} {l : List α} (h : l.Nodup) (n : Nat) : (l.take n).Nodup := h.sublist (List.take_sublist n l)
theorem names_nodup {s l m o : Nat} (hl : l < 2) (h : o + m ≤ 52) : ((List.range m).map fun i => pn s l (o + i)).Nodup :=
  List.pairwise_map.mpr ((List.Pairwise.and_mem.mp List.nodup_range).imp fun {a b} ⟨ma, mb, ne⟩ e => by
    have h1 := List.mem_range.mp ma
    have h2 := List.mem_range.mp mb
    exact ne (by have := pn_inj hl (by omega) (by omega) e; omega))
/-- texts of a part are short -/
theorem txs_gs {po : List Str} {pk : List (Str × Prt)} (h1 : ∀ x ∈ po, GS 12 x) (h2 : ∀ x ∈ pk, GS 12 x.1 ∧ ∀ y ∈ x.2.po, GS 12 y) : ∀ t ∈ txs po pk, GS 40 t := fun t ht => by
  rcases List.mem_append.mp ht with h | h
  · exact (h1 t h).mono (by decide)
  · obtain ⟨x, hx, h⟩ := List.mem_flatMap.mp h
    obtain ⟨q, hq, rfl⟩ := List.mem_map.mp h
    exact (((h2 x hx).1.add (m := 1) (t := ("." : Str)) ⟨by decide +kernel, by decide +kernel⟩).add ((h2 x hx).2 q hq)).mono (by decide)
theorem bn_cps (s n i : Nat) : (bn s n i).cps.toList = (97 + (i + s) % 12) :: (Txt.mul ("p" : Str) (n : Nat)).cps.toList := by
  unfold bn
  rw [Str.cps_append, Array.toList_append]; rfl
theorem bn_inj {s n i j : Nat} (hi : i ≤ 11) (hj : j ≤ 11) (e : bn s n i = bn s n j) : i = j := by
  have : (bn s n i).cps.toList = (bn s n j).cps.toList := by rw [e]
  rw [bn_cps, bn_cps] at this
  have := (List.cons.inj this).1
  omega
theorem ps_gs : ∀ n : Fin 9, GS 9 (Txt.mul ("p" : Str) ((n.val : Nat) : Int)) := by decide +kernel
theorem bn_gs {s n i : Nat} (h : n < 9) : GS 12 (bn s n i) := ((GS.one (c := 97 + (i + s) % 12) (by omega)).add (ps_gs ⟨n, h⟩)).mono (by decide)
theorem bn_nob (s n i : Nat) : bn s n i ≠ ("nobody" : Str) := fun e => by
  have : (bn s n i).cps.toList = ("nobody" : Str).cps.toList := by rw [e]
  rw [bn_cps, show ("nobody" : Str).cps.toList = 110 :: [111, 98, 111, 100, 121] from by decide +kernel] at this
  have := (List.cons.inj this).1
  omega
theorem bk_nodup {bk : List Prt} (h : ∀ (i j : Nat) (p q : Prt), bk[i]? = some p → bk[j]? = some q → p.nm = q.nm → i = j) : (bk.map (·.nm)).Nodup := by
  refine List.pairwise_map.mpr (List.pairwise_iff_getElem.mpr fun i j hi hj lt e => ?_)
  have := h i j _ _ (List.getElem?_eq_getElem hi) (List.getElem?_eq_getElem hj) e
  omega
theorem bk_of_VB {s n : Nat} {bk : List Prt} (h : VB s n bk) : BkOk bk := by
  have lm := h.many
  have at_ : ∀ p ∈ bk, ∃ i, i < bk.length ∧ bk[i]? = some p := fun p hp => by
    obtain ⟨i, hi, rfl⟩ := List.getElem_of_mem hp
    exact ⟨i, hi, by simp [hi]⟩
  have nd := bk_nodup (bk := bk) fun i j p q hi hj e => by
    have li := (List.getElem?_eq_some_iff.mp hi).1
    have lj := (List.getElem?_eq_some_iff.mp hj).1
    rw [h.nm i p hi, h.nm j q hj] at e
    exact bn_inj (by omega) (by omega) e
  have gn : ∀ x ∈ bk, GS 12 x.nm := fun p hp => by
    obtain ⟨i, _, e⟩ := at_ p hp
    rw [h.nm i p e]
    exact bn_gs h.hn
  have vpo : ∀ x ∈ bk, x.po.length ≤ 3 ∧ (∀ y ∈ x.po, GS 12 y) ∧ x.po.Nodup := fun x hx => by
    obtain ⟨i, _, e⟩ := at_ x hx
    obtain ⟨s', l', a', b', pk', v'⟩ := h.vp i x e
    refine ⟨(vp_po v').1, (vp_po v').2, ?_⟩
    rw [v'.po]
    exact take_nodup (pool_nodup v'.hl) _
  have pok : ∀ p ∈ bk, ∃ pk, (∀ x ∈ pk, x.2 ∈ bk ∧ x.2.nm ≠ p.nm) ∧ Pok p pk ∧ BP p := fun p hp => by
    obtain ⟨i, hi, e⟩ := at_ p hp
    obtain ⟨s', l', a', b', pk, v⟩ := h.vp i p e
    have inb : ∀ x ∈ pk, x.2 ∈ bk := fun x hx => List.mem_of_mem_take (v.inb x hx)
    have pkn : ∀ x ∈ pk, ∃ k, k < 4 ∧ x.1 = pn s' l' (9 + k) := fun x hx => by
      have m := List.mem_map_of_mem (f := (·.1)) hx
      rw [v.nm] at m
      obtain ⟨k, hk, e⟩ := List.mem_map.mp m
      have := List.mem_range.mp hk
      have := v.many
      exact ⟨k, by omega, e.symm⟩
    have pkg : ∀ x ∈ pk, GS 12 x.1 := fun x hx => by
      obtain ⟨k, hk, e⟩ := pkn x hx
      rw [e]
      exact pn_gs v.hl (by omega)
    have hpo := vpo p hp
    have tg : ∀ t ∈ txs p.po pk, GS 40 t := txs_gs hpo.2.1 fun x hx => ⟨pkg x hx, (vpo _ (inb x hx)).2.1⟩
    have many := v.many
    have hinn : p.inn.length ≤ 3 ∧ ∀ x ∈ p.inn, GS 12 x := by
      have := v.hb
      rw [v.inn]
      exact ⟨by rw [List.length_take]; omega, fun x hx => pool_gs v.hl x (List.mem_of_mem_drop (List.mem_of_mem_take hx))⟩
    have og := own_gs hpo.2.1 hinn.2
    refine ⟨pk, fun x hx => ⟨inb x hx, fun z => ?_⟩, ⟨⟨v.pl, by omega, by omega, fun x hx => (hpo.2.1 x hx).mono (by decide), fun x hx => (pkg x hx).mono (by decide), fun x hx => by have := (vpo _ (inb x hx)).1; omega, fun x hx y hy => ((vpo _ (inb x hx)).2.1 y hy).mono (by decide)⟩, ?_, by have := v.jm; omega, fun j hj => ?_⟩, ⟨(gn p hp).mono (by decide), ⟨by omega, fun x hx => (hpo.2.1 x hx).mono (by decide)⟩, ⟨by omega, fun x hx => (hinn.2 x hx).mono (by decide)⟩, ⟨?_, fun x hx => ?_⟩, ⟨v.ls.many, fun l hl => ?_⟩, by have := v.jm; omega, fun j hj => ?_⟩⟩
    · obtain ⟨j, hj, ej⟩ := List.getElem_of_mem (v.inb x hx)
      rw [List.length_take] at hj
      rw [List.getElem_take] at ej
      have ej : bk[j]? = some x.2 := by rw [← ej]; exact List.getElem?_eq_getElem _
      have := nm_eq nd ej e z
      omega
    · refine txs_nodup hpo.2.2 (fun x hx => ?_) (by rw [v.nm]; exact names_nodup v.hl (by omega)) (fun x hx => ?_) fun x hx => (vpo _ (inb x hx)).2.2
      · rw [v.po] at hx
        exact pool_nodot v.hl x (List.mem_of_mem_take hx)
      · obtain ⟨k, hk, e⟩ := pkn x hx
        rw [e]
        exact pn_nodot v.hl (by omega)
    · obtain ⟨j1, j2, j3, j4⟩ := v.jo j hj
      exact ⟨j1, j2, by omega, j4⟩
    · rw [v.pl, List.length_map]; omega
    · rw [v.pl] at hx
      obtain ⟨y, hy, rfl⟩ := List.mem_map.mp hx
      exact ⟨(pkg y hy).mono (by decide), (gn _ (inb y hy)).mono (by decide)⟩
    · have w := v.ls.ok l hl
      have tp : ∀ t ∈ l.ts, t.k < 4 ∧ t.q ∈ own p.po p.inn := fun t ht => w.pl (t.k, t.q) (by
        unfold Lw.places
        have := List.mem_map_of_mem (f := fun t : Trm => (t.k, t.q)) ht
        split
        · exact this
        · exact List.mem_cons_of_mem _ this)
      refine ⟨?_, fun ex => ?_, w.many, fun t ht => ⟨(tp t ht).1, (og _ (tp t ht).2).mono (by decide), ?_⟩⟩
      · rcases w.src with z | z | z <;> rw [z] <;> exact ⟨by decide +kernel, by decide +kernel⟩
      · have m := w.pl (l.k, l.q) (by unfold Lw.places; rw [ex]; exact List.mem_cons_self)
        exact ⟨m.1, (og _ m.2).mono (by decide)⟩
      · cases ex : l.ex with
        | true =>
          obtain ⟨n, e1, _, e2⟩ := w.num ex t ht
          exact .inl ⟨n, e1, e2⟩
        | false =>
          obtain ⟨s, e1, e2⟩ := (w.nam ex).2 t ht
          exact .inr ⟨s, e1, e2.mono (by decide)⟩
    · obtain ⟨j1, j2, j3, j4⟩ := v.jo j hj
      exact ⟨by omega, fun t ht => tg t (j4 t ht)⟩
  exact ⟨lm, nd, fun x hx => (gn x hx).mono (by decide), fun x hx => by
    obtain ⟨i, _, e⟩ := at_ x hx
    rw [h.nm i x e]
    exact bn_nob _ _ _, fun p hp => let ⟨pk, a, b, _⟩ := pok p hp; ⟨pk, a, b⟩, fun p hp => let ⟨_, _, _, c⟩ := pok p hp; c⟩
theorem bk_of_Gr {s l n m b : Nat} {js : List (List Str)} (h : GrB s l n m b js) : BkOk [oneP s l n, twoP s l m b js] := by
  have hl := h.hl
  have hn := h.hn
  have hm := h.hm
  have hb := h.hb
  have po_ : ∀ k, k ≤ 8 → ((pool s l).take k).length ≤ 20 ∧ ∀ x ∈ (pool s l).take k, GS 12 x := fun k hk => ⟨by rw [List.length_take]; omega, fun x hx => pool_gs hl x (List.mem_of_mem_take hx)⟩
  have g1 : GS 12 ("one" : Str) := ⟨by decide +kernel, by decide +kernel⟩
  have g2 : GS 12 ("two" : Str) := ⟨by decide +kernel, by decide +kernel⟩
  have ne : ("one" : Str) ≠ ("two" : Str) := by decide +kernel
  have all2 : ∀ {Pp : Prt → Prop}, Pp (oneP s l n) → Pp (twoP s l m b js) → ∀ x ∈ [oneP s l n, twoP s l m b js], Pp x := fun a c x hx => by
    rcases List.mem_cons.mp hx with rfl | hx
    · exact a
    · rw [List.mem_singleton.mp hx]; exact c
  have pkf : ∀ x ∈ gpk s l n m, ∃ k, k < m ∧ x = (pn s l (20 + k), oneP s l n) := fun x hx => by
    obtain ⟨k, hk, e⟩ := List.mem_map.mp hx
    exact ⟨k, List.mem_range.mp hk, e.symm⟩
  have lpk : (gpk s l n m).length = m := by unfold gpk; rw [List.length_map, List.length_range]
  have epl : (twoP s l m b js).pl = (gpk s l n m).map fun x => (x.1, x.2.nm) := by
    unfold gpk twoP
    rw [List.map_map]; rfl
  have tg : ∀ t ∈ txs ((pool s l).take b) (gpk s l n m), GS 40 t := txs_gs (po_ b hb).2 fun x hx => by
    obtain ⟨k, hk, rfl⟩ := pkf x hx
    exact ⟨pn_gs hl (by omega), (po_ n hn).2⟩
  refine ⟨by show 2 ≤ 11; decide, ?_, all2 (g1.mono (by decide)) (g2.mono (by decide)), all2 (by show ("one" : Str) ≠ ("nobody" : Str); decide +kernel) (by show ("two" : Str) ≠ ("nobody" : Str); decide +kernel), all2 ⟨[], (fun _ z => by cases z), ?_⟩ ⟨gpk s l n m, fun x hx => ?_, ?_⟩, all2 ?_ ?_⟩
  · show [("one" : Str), ("two" : Str)].Nodup
    exact List.nodup_cons.mpr ⟨fun z => ne (List.mem_singleton.mp z), List.nodup_cons.mpr ⟨List.not_mem_nil, List.nodup_nil⟩⟩
  · refine ⟨⟨rfl, (po_ n hn).1, by show 0 ≤ 20; decide, fun x hx => ((po_ n hn).2 x hx).mono (by decide), (fun _ z => by cases z), (fun _ z => by cases z), (fun _ z => by cases z)⟩, ?_, by show 0 ≤ 1000; decide, fun _ z => by cases z⟩
    exact txs_nodup (take_nodup (pool_nodup hl) n) (fun x hx => pool_nodot hl x (List.mem_of_mem_take hx)) List.nodup_nil (fun _ z => by cases z) fun _ z => by cases z
  · obtain ⟨k, hk, rfl⟩ := pkf x hx
    exact ⟨List.mem_cons_self, ne⟩
  · refine ⟨⟨epl, (po_ b hb).1, by omega, fun x hx => ((po_ b hb).2 x hx).mono (by decide), fun x hx => ?_, fun x hx => ?_, fun x hx => ?_⟩, ?_, by have := h.jm; show js.length ≤ 1000; omega, fun j hj => ?_⟩
    · obtain ⟨k, hk, rfl⟩ := pkf x hx
      exact (pn_gs hl (by omega)).mono (by decide)
    · obtain ⟨k, hk, rfl⟩ := pkf x hx
      exact (po_ n hn).1
    · obtain ⟨k, hk, rfl⟩ := pkf x hx
      exact fun y hy => ((po_ n hn).2 y hy).mono (by decide)
    · refine txs_nodup (take_nodup (pool_nodup hl) b) (fun x hx => pool_nodot hl x (List.mem_of_mem_take hx)) ?_ (fun x hx => ?_) fun x hx => ?_
      · have : (gpk s l n m).map (·.1) = (List.range m).map fun i => pn s l (20 + i) := by
          unfold gpk
          rw [List.map_map]; rfl
        rw [this]
        exact names_nodup hl (by omega)
      · obtain ⟨k, hk, rfl⟩ := pkf x hx
        exact pn_nodot hl (by omega)
      · obtain ⟨k, hk, rfl⟩ := pkf x hx
        exact take_nodup (pool_nodup hl) n
    · obtain ⟨j1, j2, j3, j4⟩ := h.jo j hj
      exact ⟨j1, j2, by omega, j4⟩
  · exact ⟨g1.mono (by decide), ⟨(po_ n hn).1, fun x hx => ((po_ n hn).2 x hx).mono (by decide)⟩, ⟨by show 0 ≤ 20; decide, fun _ z => by cases z⟩, ⟨by show 0 ≤ 20; decide, fun _ z => by cases z⟩, ⟨by show 0 ≤ 3; decide, fun _ z => by cases z⟩, by show 0 ≤ 20; decide, fun _ z => by cases z⟩
  · refine ⟨g2.mono (by decide), ⟨(po_ b hb).1, fun x hx => ((po_ b hb).2 x hx).mono (by decide)⟩, ⟨by show 0 ≤ 20; decide, fun _ z => by cases z⟩, ⟨by rw [epl, List.length_map]; omega, fun x hx => ?_⟩, ⟨by show 0 ≤ 3; decide, fun _ z => by cases z⟩, h.jm, fun j hj => ?_⟩
    · rw [epl] at hx
      obtain ⟨y, hy, rfl⟩ := List.mem_map.mp hx
      obtain ⟨k, hk, rfl⟩ := pkf y hy
      exact ⟨(pn_gs hl (by omega)).mono (by decide), g1.mono (by decide)⟩
    · obtain ⟨j1, j2, j3, j4⟩ := h.jo j hj
      exact ⟨by omega, fun t ht => tg t (j4 t ht)⟩
/-- the texts of a part are short -/
theorem pok_gs {p : Prt} {pk : List (Str × Prt)} (h : Bdp p pk) : ∀ t ∈ txs p.po pk, GS 60 t := fun t ht => by
  rcases List.mem_append.mp ht with z | z
  · exact (h.gpo t z).mono (by decide)
  · obtain ⟨x, hx, z⟩ := List.mem_flatMap.mp z
    obtain ⟨q, hq, rfl⟩ := List.mem_map.mp z
    exact (((h.gn x hx).add (m := 1) (t := ("." : Str)) ⟨by decide +kernel, by decide +kernel⟩).add (h.gk x hx q hq)).mono (by decide)
theorem rows_sh {p : Prt} {pk : List (Str × Prt)} (h : Bdp p pk) (f : Nat → Nat) : SeqAt.shaped (dJs (GP.rowsL (txs p.po pk) p.po f (txs p.po pk).length)) = true := by
  have lt := txs_many h
  have mem : ∀ j ∈ GP.rowsL (txs p.po pk) p.po f (txs p.po pk).length, ∃ k, j = GP.cls (txs p.po pk) f k (txs p.po pk).length := fun j hj => by
    unfold GP.rowsL at hj
    obtain ⟨k, _, e⟩ := List.mem_map.mp (List.mem_filter.mp hj).1
    exact ⟨k, e.symm⟩
  obtain ⟨a, b⟩ := gd_rows (js := GP.rowsL (txs p.po pk) p.po f (txs p.po pk).length) (by have := GP.rowsL_len (txs p.po pk) p.po f (txs p.po pk).length; omega) (fun j hj t ht => by
    obtain ⟨k, rfl⟩ := mem j hj
    obtain ⟨i, _, _, e⟩ := GP.cls_mem.mp ht
    exact pok_gs h t (mem_at e)) fun j hj => by
    obtain ⟨k, rfl⟩ := mem j hj
    have := GP.cls_len (txs p.po pk) f k (txs p.po pk).length
    omega
  exact shaped_of a b
end
end K08
-- W8
namespace K08
open PySem PySem.Spec PyProof.Rows L2
section
variable {P : Program} {w : World} {K : PySem.W.Frag} {mg : Str → Option Value} {base : Heap}
/-! ### the law -/
def TSb (K : PySem.W.Frag) (a : Addr) : TS := fun Dn σ G => ∃ (d b : Addr) (ds : List Int) (bk : List Prt), σ = [some (.ref a), some (.ref d), some (.ref b), none, none, none, none, none, none, none, none, none] ∧ IL G d ds ∧ BK K G b bk ∧ BkOk bk ∧
  ∀ (G' : Hp) (b' : Addr) (bk' : List Prt), Same G G' → BK K G' b' bk' → BkOk bk' → Dn.nx [some (.ref a), some (.ref d), some (.ref b'), none, none, none, none, none, none, none, none, none] G'
theorem NL.jo {B H : Hp} {q : Addr} {rows : List (List Str)} (h : NL B H q rows) : JoL H q rows := by
  obtain ⟨_, xs, hq, hA⟩ := h
  exact ⟨xs, hq, hA.mono fun _ _ ⟨a, e, _, _, z⟩ => ⟨a, e, z⟩⟩
theorem pt_ref {K : PySem.W.Frag} {H : Hp} {v : V} {p : Prt} (h : PT K H v p) : ∃ (a po inn pl la jo : Addr), v = .ref a ∧ SqT K H a [.str p.nm, .ref po, .ref inn, .ref pl, .ref la, .ref jo] := by
  obtain ⟨a, po, inn, pl, la, jo, e, h, _⟩ := h
  exact ⟨a, po, inn, pl, la, jo, e, h⟩
/-- one part of a book is exchanged -/
theorem book_cut {bk : List Prt} {i : Nat} {p : Prt} (h : bk[i]? = some p) : bk = bk.take i ++ p :: bk.drop (i + 1) := by
  obtain ⟨hi, rfl⟩ := List.getElem?_eq_some_iff.mp h
  rw [List.getElem_cons_drop, List.take_append_drop]
theorem A2.drop {α β : Type} {R : α → β → Prop} : ∀ {as : List α} {bs : List β} (i : Nat), A2 R as bs → A2 R (as.drop i) (bs.drop i)
  | _, _, 0, h => by rw [List.drop_zero, List.drop_zero]; exact h
  | _, _, _ + 1, .nil => .nil
  | _, _, i + 1, .cons h t => A2.drop i t
theorem cut_from {xs : List V} {z : Int} {L : Nat} (e : z = (L : Int)) (h : L ≤ xs.length) : cutV xs (some z) none = xs.drop L := by
  subst e
  unfold cutV
  rw [HT.sIx_nat, HT.sIx_none, Nat.min_eq_left h]
  exact List.take_of_length_le (by rw [List.length_drop]; exact Nat.le_refl _)
theorem ixs_sub {ts : List Str} {js jo : List (List Str)} (h : ∀ j ∈ js, ∃ k ∈ jo, ∀ x ∈ j, x ∈ k) : ∀ j ∈ ixs ts js, ∃ k ∈ ixs ts jo, ∀ x ∈ j, x ∈ k := fun j hj => by
  obtain ⟨j0, hj0, rfl⟩ := List.mem_map.mp hj
  obtain ⟨k, hk, hs⟩ := h j0 hj0
  refine ⟨_, List.mem_map_of_mem hk, fun x hx => ?_⟩
  obtain ⟨t, ht, rfl⟩ := List.mem_map.mp hx
  exact List.mem_map_of_mem (hs t ht)
/-- a part with its joints said otherwise -/
theorem pok_more {p : Prt} {pk : List (Str × Prt)} {js : List (List Str)} (h : Pok p pk) (m : MoreOk p.jo js) : Pok ⟨p.nm, p.po, p.inn, p.pl, p.ls, js⟩ pk := by
  refine ⟨⟨h.B.pl, h.B.po, h.B.many, h.B.gpo, h.B.gn, h.B.lk, h.B.gk⟩, h.nd, m.len, fun j hj => ?_⟩
  obtain ⟨⟨a, b, c⟩, k, hk, hs⟩ := m.ok j hj
  exact ⟨a, b, c, fun t ht => (h.jn.2 k hk).2.2.2 t (hs t ht)⟩
def sp_law (K : PySem.W.Frag) : Sp := fun vs H Q _ => ∃ (a : Addr) (ns : List Int), vs = [.ref a] ∧ SqL K H a (ns.map V.int) ∧ ns.length ≤ 63 ∧ ∀ H', Q (.bl true) H'
theorem ok_law (T : Txt K mg) (X : Errs K mg) : LG.FnG P w K mg base CX0 6 T.law.a T.law.fd ["script"] (sp_law K) := by
  refine LG.fun_okG T.law.F sc_law (fun vs H Q E h => ?_) (fun cdv A outer s H vs Q E hr gd h => ?_)
  · obtain ⟨a, ns, rfl, _⟩ := h
    rfl
  · obtain ⟨a, ns, rfl, ha, hl, fin⟩ := h
    refine ⟨_, (pss_cons (ps_set (i := 1) sc_law.nd rfl (.inl rfl) (pe_call (ok_law_draws T) (hr.mono (by decide)) (by rfl) T.law_draws.g T.law_draws.F.kp T.law_draws.b .nil pass0 (pa_cons (pv 0) pa_nil)))
      (pss_cons (ps_set (i := 2) sc_law.nd rfl (.inl rfl) (pe_call (ok_law_book T) (hr.mono (by decide)) (by rfl) T.law_book.g T.law_book.F.kp T.law_book.b .nil pass0 (pa_cons (pv 1) (pa_cons pe_int (pa_cons pe_int pa_nil)))))
      (pss_cons (ps_via (t' := TSb K a) (ps_if (pt_cmpR op_eq (pe_call (ok_law_at T) (hr.mono (by decide)) (by rfl) T.law_at.g T.law_at.F.kp T.law_at.b .nil pass0 (pa_cons (pv 1) (pa_cons pe_int (pa_cons pe_int pa_nil)))) pe_int (nomark _))
        (pss_one (ps_set (i := 2) sc_law.nd rfl (.inl rfl) (pe_call (ok_law_great T) (hr.mono (by decide)) (by rfl) T.law_great.g T.law_great.F.kp T.law_great.b .nil pass0 (pa_cons (pv 1) pa_nil))))
        pss_nil) ?viab)
      (pss_cons (ps_set (i := 3) sc_law.nd rfl (.inl rfl) (pe_callB (LG.call_reprD gd hr.units) (by rfl) T.m_repr (by decide +kernel) (pa_cons (pv 2) pa_nil)))
      (pss_cons (ps_for PassesOwn.never rfl (pi_list (pv 2)) (pg_name (i := 4) sc_law.nd rfl (.inl rfl))
        (pss_cons (ps_set (i := 5) sc_law.nd rfl (.inl rfl) (pe_call (ok_law_nodes T) (hr.mono (by decide)) (by rfl) T.law_nodes.g T.law_nodes.F.kp T.law_nodes.b .nil pass0 (pa_cons (pv 2) (pa_cons (pv 4) pa_nil))))
        (pss_cons (ps_set (i := 6) sc_law.nd rfl (.inl rfl) (pe_call (ok_nodes T X) (hr.mono (by decide)) (by rfl) T.nodes.g T.nodes.F.kp T.nodes.b .nil (passes_call takes0 fun _ _ _ _ h => h) (pa_cons (pv 2) (pa_cons (pe_ix ix_tup (pv 4) pe_int (fun _ _ => rfl)) pa_nil))))
        (pss_cons (ps_if (PW.pt (pw_or (pt_not (pt_val (pe_callB call_isi (by rfl) T.m_isinstance (by decide +kernel) (pa_cons (pv 6) (pa_cons (pe_bltn (v := .ty "list") (by rfl) T.m_list (by decide +kernel) rfl) pa_nil))))) (pw_or (pt_cmpR (op_neD hr.units) (pv 6) (pv 5) (nomark _)) (pw_or1 (pt_cmpR op_ne (pe_callB (LG.call_reprD gd hr.units) (by rfl) T.m_repr (by decide +kernel) (pa_cons (pv 2) pa_nil)) (pv 3) (nomark _))))))
          (pss_one (ps_ret pe_bl))
          pss_nil)
        (pss_cons (ps_for PassesOwn.never rfl (pi_list (pv 6)) (pg_name (i := 7) sc_law.nd rfl (.inl rfl))
          (pss_one (ps_expr (pe_bm PySem.F.plainAttrs_list PySem.F.slot_list_append PySem.F.type_list_append mt_append (pv 7) (pa_cons pe_str pa_nil)))))
        (pss_cons (ps_expr (pe_bm PySem.F.plainAttrs_list PySem.F.slot_list_append PySem.F.type_list_append mt_append (pv 6) (pa_cons (pe_lst pa_nil) pa_nil)))
        (pss_cons (ps_if (pt_cmpR (op_neD hr.units) (pe_call (ok_nodes T X) (hr.mono (by decide)) (by rfl) T.nodes.g T.nodes.F.kp T.nodes.b .nil (passes_call takes0 fun _ _ _ _ h => h) (pa_cons (pv 2) (pa_cons (pe_ix ix_tup (pv 4) pe_int (fun _ _ => rfl)) pa_nil))) (pv 5) (nomark _))
          (pss_one (ps_ret pe_bl))
          pss_nil)
        (pss_cons (ps_set (i := 9) sc_law.nd rfl (.inl rfl) (pe_bm PySem.F.plainAttrs_list PySem.F.slot_list_index PySem.F.type_list_index mt_index (pe_lc (own := [("other", 8)]) rfl sc_law.nd (pi_list (pv 2)) (blkOk_by (N := ["script", "draws", "book", "kept", "part", "due", "told", "node", "other", "place", "turn", "e"]) (sc := defScope s_law) (by decide +kernel)) (fun _ _ _ _ _ => (pg_name (i := 8) sc_law.nd rfl (.inl rfl))) (fun _ _ _ _ _ => pts_nil) (fun _ _ _ _ _ => (pe_ix (r := rIxT K) ix_tup (pv 8) pe_int (fun _ _ => rfl)))) (pa_cons (pe_ix ix_tup (pv 4) pe_int (fun _ _ => rfl)) pa_nil)))
        (pss_cons (ps_set (i := 8) sc_law.nd rfl (.inl rfl) (pe_op op_cat (pe_op op_cat (pe_slice sl_list (pv 2) po_none (po_some (pv 9))) (pe_lst (pa_cons (pe_call (ok_law_more T) (hr.mono (by decide)) (by rfl) T.law_more.g T.law_more.F.kp T.law_more.b .nil pass0 (pa_cons (pv 1) (pa_cons (pv 4) pa_nil))) pa_nil))) (pe_slice sl_list (pv 2) (po_some (pe_op op_add (pv 9) pe_int)) po_none)))
        (pss_one (ps_if (pt_cmpR (op_neD hr.units) (pe_call (ok_nodes T X) (hr.mono (by decide)) (by rfl) T.nodes.g T.nodes.F.kp T.nodes.b .nil (passes_call takes0 fun _ _ _ _ h => h) (pa_cons (pv 8) (pa_cons (pe_ix ix_tup (pv 4) pe_int (fun _ _ => rfl)) pa_nil))) (pv 5) (nomark _))
          (pss_one (ps_ret pe_bl))
          pss_nil)))))))))))
      (pss_cons (ps_for PassesOwn.never rfl (pi_range1 (by rfl) T.m_range (pa_cons pe_int pa_nil)) (pg_name (i := 10) sc_law.nd rfl (.inl rfl))
        (pss_one (LX.ps_try_asE (i := 11) (pss_one (ps_ret pe_bl)) rfl rfl sc_law.nd rfl rfl ⟨rfl, by decide, .inl X.NoPart.g⟩ takes0
          (fun W pn xe tk _ => (pss_one (ps_expr (pe_callS (ok_nodes T X) (hr.mono (by decide)) (by rfl) T.nodes.g T.nodes.F.kp T.nodes.b (fun σ => passAt tk σ) (pa_cons (pe_ix (r := rIxL K) ix_list (pe_lst (pa_cons (pv 2) (pa_cons (pe_lst pa_nil) pa_nil))) (pv 10) (fun _ _ => rfl)) (pa_cons pe_str pa_nil))))))
          (fun a oe cls d pn hz hf => (pss_one (ps_if (pt_cmpR op_ne (pe_xf X.NoPart.xf X.NoPart.noAt hz hf (pv 11)) pe_int (nomark _))
            (pss_one (ps_ret pe_bl))
            pss_nil))))))
      (pss_one (ps_ret (pe_cmpR op_eq (pe_callB (LG.call_reprD gd hr.units) (by rfl) T.m_repr (by decide +kernel) (pa_cons (pv 2) pa_nil)) (pv 3) (nomark _)))))))))), ?_⟩
    case viab =>
      intro Dn σ G hh
      obtain ⟨d, b, ds, bk, rfl, hd, hB, ok, go⟩ := hh
      refine ⟨.ref d, rfl, d, ds, 90, 4, rfl, hd, by decide, by decide, rfl, _, rfl, ite2 (fun _ => ?_) (fun _ => go G b bk (Same.refl _) hB ok)⟩
      exact ⟨.ref d, rfl, d, ds, rfl, hd, fun G' b' s l n m b js sm hB' gr => go G' b' _ sm hB' (bk_of_Gr gr)⟩
    refine ⟨.ref a, rfl, a, ns, rfl, ha, hl, fun H1 d ds s1 nd hd _ => ?_⟩
    refine ⟨.ref d, rfl, d, ds, 0, 4, rfl, hd, by decide, by decide, by decide, fun H2 b0 bk0 sv nv s2 nb0 hB0 hV _ => ?_⟩
    refine ⟨d, b0, ds, bk0, rfl, hd.same s2, hB0 H2 fun _ _ _ z => z, bk_of_VB hV, fun H3 b bk s3 hB ok => ?_⟩
    have hd3 := (hd.same s2).same s3
    clear hB0 hV
    have g := gd_bk ok.many ok.bp
    have g0 := PyData.hasDict_of_canLay _ g.lay
    refine ⟨.ref b, rfl, b, dBk bk, rfl, dp_bk hB, g.sh, g0, Nat.le_trans g.dep (by decide), Nat.le_trans g.len (by decide), ?_⟩
    generalize hkept : (dBk bk).shown = kept
    obtain ⟨xs, hb, hA⟩ := id hB
    have lx := hA.len
    refine ⟨_, rfl, b, rfl, ⟨xs, .of hb⟩, ?_⟩
    refine for_it (walk_list (K := K) (a := b) (xs := xs)) (fun i σ G => Same H3 G ∧ ∃ v4 v5 v6 v7 v8 v9 : Option V, σ = [some (.ref a), some (.ref d), some (.ref b), some (.str kept), v4, v5, v6, v7, v8, v9, none, none])
      ⟨.refl _, none, none, none, none, none, none, rfl⟩ (fun _ _ _ _ z => .of (z.1 _ _ hb)) (fun i x σ G Gx hi pv y => ?_) (fun σ G pv => ?_)
    · obtain ⟨sm, v4, v5, v6, v7, v8, v9, rfl⟩ := pv
      obtain ⟨rfl, hx⟩ := y
      obtain ⟨p, hp, hPT⟩ := hA.get hx
      have mp := mem_at hp
      have hPT1 := hPT.same sm
      have hB1 := hB.same sm
      obtain ⟨pk, hpk, pok⟩ := ok.part p mp
      refine ⟨_, rfl, _, rfl, b, x, bk, p, pk, rfl, hB1, hPT1, pok, ok.nd, fun z hz => (hpk z hz).1, ok.gn, fun H5 q f s5 fI fC hJ => ?_⟩
      have sh := rows_sh pok.B f
      obtain ⟨pa, po, inn, pl, la', jo, rfl, h0⟩ := pt_ref hPT1
      have sm5 := sm.trans s5
      have uniq : ∀ p' ∈ bk, p'.nm = p.nm → p' = p := fun p' hp' e => by
        obtain ⟨j, hj, rfl⟩ := List.getElem_of_mem hp'
        have e1 : bk[j]? = some bk[j] := by simp [hj]
        have := nm_eq ok.nd e1 hp e
        subst this
        rw [e1] at hp
        exact Option.some.inj hp
      refine ⟨_, rfl, _, rfl, pa, _, _, _, rfl, rfl, Same.seqT s5 h0, rfl, b, p.nm, xs, bk, rfl, sm5 _ _ hb, hA.mono (fun _ _ z => z.same sm5), by have := ok.many; omega, ok.nd, fun no => absurd rfl (no p mp), fun p' hp' e => ?_⟩
      obtain rfl := (uniq p' hp' e).symm
      refine ⟨pk, fun z hz => (hpk z hz).1, pok, fun H6 q1 f1 s6 fI1 fC1 hN => ?_⟩
      rw [GP.same_rows fI1 fC1 fI fC] at hN
      have lrows : (GP.rowsL (txs p.po pk) p.po f (txs p.po pk).length).length ≤ 500 := by
        have := GP.rowsL_len (txs p.po pk) p.po f (txs p.po pk).length
        have := txs_many pok.B
        omega
      have lrow : ∀ r ∈ GP.rowsL (txs p.po pk) p.po f (txs p.po pk).length, r.length ≤ 500 := fun r hr2 => by
        unfold GP.rowsL at hr2
        obtain ⟨k, _, rfl⟩ := List.mem_map.mp (List.mem_filter.mp hr2).1
        have := GP.cls_len (txs p.po pk) f k (txs p.po pk).length
        have := txs_many pok.B
        omega
      generalize eR : GP.rowsL (txs p.po pk) p.po f (txs p.po pk).length = rows at *
      have shl := SeqAt.canLay_of_shaped sh
      have sm6 := sm5.trans s6
      obtain ⟨nq1, ws, hq1, hW⟩ := id hN
      refine ⟨.ref q1, rfl, _, _, _, _, true, rfl, .ty "list", .base (.lst hq1), rfl, _, rfl, iteF ⟨_, rfl, _, rfl, dJs rows, dJs rows, dp_js hN.jo, dp_js (hJ.same s6), sh, sh, _, rfl, ?_⟩⟩
      rw [SeqAt.eqv_refl _ shl]
      refine iteF ⟨.ref b, rfl, b, dBk bk, rfl, dp_bk (hB.same sm6), g.sh, g0, Nat.le_trans g.dep (by decide), Nat.le_trans g.len (by decide), _, rfl, rfl, _, rfl, ?_⟩
      rw [hkept, decide_eq_true rfl]
      refine iteF ⟨_, rfl, q1, rfl, ⟨ws, .of hq1⟩, ?_⟩
      refine for_it (walk_list (K := K) (a := q1) (xs := ws)) (fun j σ G => Same H5 G ∧ G q1 = some (.lst ws) ∧ (∀ v ∈ ws, ∃ (c : Addr) (ys : List V), v = .ref c ∧ H5 c = none ∧ c ≠ q1 ∧ G c = some (.lst ys) ∧ ys.length ≤ 500 + j) ∧ ∃ v7 : Option V, σ = [some (.ref a), some (.ref d), some (.ref b), some (.str kept), some (.ref pa), some (.ref q), some (.ref q1), v7, v8, v9, none, none])
        ⟨s6, hq1, fun v hv => ?_, v7, rfl⟩ (fun _ _ _ _ z => .of z.2.1) (fun j x σ G Gx hj pv y => ?_) (fun σ G pv => ?_)
      · obtain ⟨r, mr, c, e, n, ne, z⟩ := hW.mem v hv
        exact ⟨c, _, e, n, ne, z, by rw [List.length_map]; have := lrow r mr; omega⟩
      · obtain ⟨sg, hq, hws, v7, rfl⟩ := pv
        obtain ⟨rfl, hx⟩ := y
        have lw := hW.len
        obtain ⟨c, ys, rfl, nc, ncq, hc, lc⟩ := hws x (mem_at hx)
        refine ⟨_, rfl, .inl ⟨rfl, _, .of hc⟩, c, _, _, rfl, rfl, hc, small' (by omega), ?_⟩
        refine ⟨same_over sg nc, by rw [upd_ne (fun z => ncq z.symm)]; exact hq, fun v hv => ?_, _, rfl⟩
        obtain ⟨c', ys', rfl, nc', ncq', hc', lc'⟩ := hws v hv
        by_cases e : c' = c
        · subst e
          rw [hc] at hc'
          obtain rfl := (HO.lst.inj (Option.some.inj hc'))
          exact ⟨c', _, rfl, nc', ncq', upd_same, by rw [List.length_append]; show _ + 1 ≤ _; omega⟩
        · exact ⟨c', ys', rfl, nc', ncq', by rw [upd_ne e]; exact hc', by omega⟩
      · obtain ⟨sg, hq, hws, v7, rfl⟩ := pv
        have lw := hW.len
        clear hws
        refine ⟨_, rfl, .inl ⟨rfl, _, .of hq⟩, by show 0 ≤ sizeLine; decide, fun e ne => ⟨q1, _, _, rfl, rfl, same_upd ne _ _ hq, small' (by omega), ?_⟩⟩
        have s7 : Same H5 (upd (upd G e (.lst [])) q1 (.lst (ws ++ [.ref e]))) := same_over (sg.trans (same_upd ne (o := .lst []))) nq1
        generalize upd (upd G e (.lst [])) q1 (.lst (ws ++ [.ref e])) = H7 at s7
        have sm7 := sm5.trans s7
        have hb7 := sm7 _ _ hb
        have hJ7 := hJ.same s7
        have h07 := Same.seqT (K := K) s7 (Same.seqT s5 h0)
        refine ⟨_, rfl, _, rfl, pa, _, _, _, rfl, rfl, h07, rfl, b, p.nm, xs, bk, rfl, hb7, hA.mono (fun _ _ z => z.same sm7), by have := ok.many; omega, ok.nd, fun no => absurd rfl (no p mp), fun p'' hp'' e2 => ?_⟩
        obtain rfl := (uniq p'' hp'' e2).symm
        refine ⟨pk, fun z hz => (hpk z hz).1, pok, fun H8 q2 f2 s8 fI2 fC2 hN2 => ?_⟩
        rw [GP.same_rows fI2 fC2 fI fC, eR] at hN2
        refine ⟨_, rfl, dJs rows, dJs rows, dp_js hN2.jo, dp_js (hJ7.same s8), sh, sh, _, rfl, ?_⟩
        rw [SeqAt.eqv_refl _ shl]
        have sm8 := sm7.trans s8
        have h08 := Same.seqT (K := K) s8 h07
        have hb8 := s8 _ _ hb7
        have hA8 : A2 (PT K H8) xs bk := hA.mono fun _ _ z => z.same sm8
        have hJ8 := hJ7.same s8
        refine iteF ⟨_, rfl, b, rfl, ⟨xs, .of hb8⟩, fun D nD => ?_⟩
        refine lc_rel (xs := xs) (fun k y => ∀ r, bk[k]? = some r → y = .str r.nm) nD (.of hb8) (small' (by have := ok.many; omega)) (fun k x G2 Q' hx2 sm9 hq' => ?_) (fun H9 zs s9 hD hn hr => ?_)
        · obtain ⟨r, hr, hR⟩ := hA8.get hx2
          obtain ⟨ra, _, _, _, _, _, rfl, hra⟩ := pt_ref hR
          refine ⟨_, rfl, ra, _, _, _, rfl, rfl, Same.seqT sm9 hra, rfl, hq' _ fun r' hr' => ?_⟩
          rw [hr] at hr'
          obtain rfl := Option.some.inj hr'
          rfl
        · have ez : zs = (bk.map (·.nm)).map V.str := by
            refine List.ext_getElem? fun k => ?_
            rw [List.map_map, List.getElem?_map]
            rcases Nat.lt_or_ge k bk.length with hk | hk
            · obtain ⟨y, h⟩ : ∃ y, zs[k]? = some y := ⟨zs[k]'(by omega), by simp [show k < zs.length by omega]⟩
              have e : bk[k]? = some bk[k] := by simp [hk]
              rw [h, e, hr k y h _ e]; rfl
            · rw [List.getElem?_eq_none (by omega), List.getElem?_eq_none hk]; rfl
          subst ez
          have h09 := Same.seqT (K := K) s9 h08
          have at_i : ((bk.map (·.nm)).map V.str)[i]? = some (.str p.nm) := by rw [List.map_map, List.getElem?_map, hp]; rfl
          have no_i : ∀ (m : Nat) (z' : V), m < i → ((bk.map (·.nm)).map V.str)[m]? = some z' → eqV z' (.str p.nm) = false := fun m z' hm hz => by
            rw [List.map_map, List.getElem?_map] at hz
            cases em : bk[m]? with
            | none => rw [em] at hz; cases hz
            | some r =>
              rw [em] at hz
              obtain rfl := Option.some.inj hz
              refine decide_eq_false fun e => ?_
              have := nm_eq ok.nd em hp e
              omega
          refine ⟨.inl ⟨rfl, _, .of hD⟩, _, rfl, pa, _, _, _, rfl, rfl, h09, rfl, D, _, _, _, _, rfl, rfl, .of hD, rfl, flat_strs _, at_i, ix_yes _, no_i, ?_⟩
          have sm9 := sm8.trans s9
          have hb9 := sm9 _ _ hb
          refine ⟨_, rfl, _, rfl, _, rfl, b, _, rfl, .of hb9, fun c1 n1 => ?_⟩
          rw [cut_to rfl]
          have y1 := same_upd n1 (o := .lst (xs.take i))
          have hc1 : upd H9 c1 (.lst (xs.take i)) c1 = some (.lst (xs.take i)) := upd_same
          have sa := sm9.trans y1
          generalize upd H9 c1 _ = Ha at y1 hc1 sa
          have ljo : p.jo.length ≤ 20 := (ok.bp p mp).jo.1
          refine ⟨.ref d, rfl, _, rfl, d, ds, .ref pa, p, rfl, (hd3.same sa), hPT1.same (s5.trans (s7.trans (s8.trans (s9.trans y1)))), by omega, fun j hj => let ⟨a1, a2, a3, _⟩ := pok.jn.2 j hj; ⟨a1, a2, a3⟩, fun Hc v' js sc hv' mo => ⟨by show 1 ≤ sizeLine; decide, fun l nl => ?_⟩⟩
          have y2 := sc.trans (same_upd nl (o := .lst [v']))
          have hl2 : upd Hc l (.lst [v']) l = some (.lst [v']) := upd_same
          have hc2 := y2 _ _ hc1
          have sd := sa.trans y2
          have hv2 := hv'.same (same_upd nl (o := .lst [v']))
          generalize upd Hc l _ = Hd at y2 hl2 hc2 sd hv2
          refine ⟨c1, l, _, _, rfl, rfl, hc2, hl2, small (by rw [List.length_take]; have := ok.many; show _ + 1 ≤ _; omega), fun z nz => ?_⟩
          have y3 := same_upd nz (o := .lst (xs.take i ++ [v']))
          have hz : upd Hd z (.lst (xs.take i ++ [v'])) z = some (.lst (xs.take i ++ [v'])) := upd_same
          have se := sd.trans y3
          have hv3 := hv2.same y3
          generalize upd Hd z _ = He at y3 hz se hv3
          refine ⟨_, rfl, _, rfl, _, _, rfl, rfl, _, rfl, b, _, rfl, .of (se _ _ hb), fun c2 n2 => ?_⟩
          rw [cut_from (L := i + 1) (by omega) (by omega)]
          have y4 := same_upd n2 (o := .lst (xs.drop (i + 1)))
          refine ⟨z, c2, _, _, rfl, rfl, y4 _ _ hz, upd_same, small (by rw [List.length_append, List.length_take, List.length_drop]; have := ok.many; show _ + 1 + _ ≤ _; omega), fun ob nob => ?_⟩
          have y5 := y4.trans (same_upd nob (o := .lst ((xs.take i ++ [v']) ++ xs.drop (i + 1))))
          have hob : upd (upd He c2 (.lst (xs.drop (i + 1)))) ob (.lst ((xs.take i ++ [v']) ++ xs.drop (i + 1))) ob = some (.lst ((xs.take i ++ [v']) ++ xs.drop (i + 1))) := upd_same
          have sf := se.trans y5
          have hv4 := hv3.same y5
          generalize upd (upd He c2 _) ob _ = Hf at y5 hob sf hv4
          have hAf : A2 (PT K Hf) xs bk := hA.mono fun _ _ z => z.same sf
          have hAn : A2 (PT K Hf) ((xs.take i ++ [v']) ++ xs.drop (i + 1)) ((bk.take i ++ [⟨p.nm, p.po, p.inn, p.pl, p.ls, js⟩]) ++ bk.drop (i + 1)) := A2.app (A2.app (A2.take i hAf) (.cons hv4 .nil)) (A2.drop (i + 1) hAf)
          have s59 : Same H5 Hf := s7.trans (s8.trans (s9.trans (y1.trans (y2.trans (y3.trans y5)))))
          have enm : ((bk.take i ++ [(⟨p.nm, p.po, p.inn, p.pl, p.ls, js⟩ : Prt)]) ++ bk.drop (i + 1)).map (·.nm) = bk.map (·.nm) := by
            conv => rhs; rw [book_cut hp]
            simp only [List.map_append, List.map_cons, List.map_nil, List.append_assoc, List.singleton_append]
          have ndn : (((bk.take i ++ [(⟨p.nm, p.po, p.inn, p.pl, p.ls, js⟩ : Prt)]) ++ bk.drop (i + 1)).map (·.nm)).Nodup := by rw [enm]; exact ok.nd
          have mpn : (⟨p.nm, p.po, p.inn, p.pl, p.ls, js⟩ : Prt) ∈ (bk.take i ++ [(⟨p.nm, p.po, p.inn, p.pl, p.ls, js⟩ : Prt)]) ++ bk.drop (i + 1) := List.mem_append_left _ (List.mem_append_right _ (List.mem_singleton.mpr rfl))
          refine ⟨_, rfl, _, rfl, pa, _, _, _, rfl, rfl, Same.seqT s59 (Same.seqT s5 h0), rfl, ob, p.nm, _, _, rfl, hob, hAn, ?_, ndn, fun no => (no _ mpn rfl).elim, fun p3 hp3 e3 => ?_⟩
          · have := congrArg List.length enm
            rw [List.length_map, List.length_map] at this
            have := ok.many
            omega
          · obtain ⟨j1, hj1, ej1⟩ := List.getElem_of_mem hp3
            obtain ⟨j2, hj2, ej2⟩ := List.getElem_of_mem mpn
            have a1 := List.getElem?_eq_getElem hj1
            have a2 := List.getElem?_eq_getElem hj2
            rw [ej1] at a1
            rw [ej2] at a2
            have e4 := nm_eq ndn a1 a2 e3
            subst e4
            rw [a1] at a2
            obtain rfl := (Option.some.inj a2).symm
            refine ⟨pk, fun x hx => ?_, pok_more pok mo, fun Hg q3 f3 sg3 fI3 fC3 hN3 => ?_⟩
            · have m := (hpk x hx).1
              rw [book_cut hp] at m
              rcases List.mem_append.mp m with m | m
              · exact List.mem_append_left _ (List.mem_append_left _ m)
              · rcases List.mem_cons.mp m with m | m
                · exact absurd (by rw [m]) (hpk x hx).2
                · exact List.mem_append_right _ m
            · have f3I : GP.In (ixs (txs p.po pk) p.jo) f3 := GP.in_sub fI3 (ixs_sub fun j hj => (mo.ok j hj).2)
              have f3C : GP.Con (ixs (txs p.po pk) p.jo) f3 := GP.con_sub fC3 (ixs_sub mo.all)
              have hN4 : NL Hf Hg q3 rows := by
                rw [← eR, ← GP.same_rows f3I f3C fI fC]
                exact hN3
              refine ⟨_, rfl, dJs rows, dJs rows, dp_js hN4.jo, dp_js (hJ.same (s59.trans sg3)), sh, sh, _, rfl, ?_⟩
              rw [SeqAt.eqv_refl _ shl]
              exact iteF ⟨sf.trans sg3, _, _, _, _, _, _, rfl⟩
    · obtain ⟨sm, v4, v5, v6, v7, v8, v9, rfl⟩ := pv
      refine ⟨2, rfl, by decide, by decide, ?_⟩
      rw [show (2 : Int).toNat = 2 from rfl]
      refine for_it (walk_range (lo := 0) (n := 2)) (fun i σ G => Same H3 G ∧ ∃ v10 v11 : Option V, σ = [some (.ref a), some (.ref d), some (.ref b), some (.str kept), v4, v5, v6, v7, v8, v9, v10, v11])
        ⟨sm, none, none, rfl⟩ (fun _ _ _ _ _ => trivial) (fun i x σ G Gx hi pv y => ?_) (fun σ G pv => ?_)
      · obtain ⟨sm, v10, v11, rfl⟩ := pv
        obtain ⟨rfl, rfl⟩ := y
        refine ⟨_, rfl, by show 0 ≤ sizeLine; decide, fun e ne => ⟨by show 2 ≤ sizeLine; decide, fun L nL => ?_⟩⟩
        have s4 := (same_upd ne (o := .lst [])).trans (same_upd nL (o := .lst [.ref b, .ref e]))
        have hL : upd (upd Gx e (.lst [])) L (.lst [.ref b, .ref e]) L = some (.lst [.ref b, .ref e]) := upd_same
        have he : upd (upd Gx e (.lst [])) L (.lst [.ref b, .ref e]) e = some (.lst []) := same_upd nL _ _ upd_same
        have sm4 := sm.trans s4
        generalize upd (upd Gx e _) L _ = Gy at s4 hL he sm4
        have i01 : i = 0 ∨ i = 1 := by omega
        rcases i01 with rfl | rfl
        · refine ⟨_, rfl, L, _, _, .ref b, rfl, rfl, .of hL, rfl, b, "nobody", xs, bk, rfl, sm4 _ _ hb, hA.mono (fun _ _ z => z.same sm4), by have := ok.many; omega, ok.nd, fun no H4 s5 dd hdd => ?_, fun p hp e => absurd e (ok.nob p hp)⟩
          refine ⟨true, X.exS, fun _ a0 ha0 => ?_, fun q => nomatch q⟩
          refine ⟨_, rfl, rfl, rfl, dd, _, _, rfl, upd_same, rfl, rfl, _, rfl, ?_⟩
          rw [show (!decide (V.int 0 = V.int 0)) = false from by decide +kernel]
          exact iteF ⟨(sm4.trans s5).trans (same_upd hdd), _, _, rfl⟩
        · refine ⟨_, rfl, L, _, _, .ref e, rfl, rfl, .of hL, rfl, e, "nobody", [], [], rfl, he, .nil, by decide, List.nodup_nil, fun no H4 s5 dd hdd => ?_, fun p hp e => by cases hp⟩
          refine ⟨true, X.exS, fun _ a0 ha0 => ?_, fun q => nomatch q⟩
          refine ⟨_, rfl, rfl, rfl, dd, _, _, rfl, upd_same, rfl, rfl, _, rfl, ?_⟩
          rw [show (!decide (V.int 0 = V.int 0)) = false from by decide +kernel]
          exact iteF ⟨(sm4.trans s5).trans (same_upd hdd), _, _, rfl⟩
      · obtain ⟨sm, v10, v11, rfl⟩ := pv
        refine ⟨.ref b, rfl, b, dBk bk, rfl, dp_bk (hB.same sm), g.sh, g0, Nat.le_trans g.dep (by decide), Nat.le_trans g.len (by decide), _, rfl, rfl, ?_⟩
        rw [hkept, decide_eq_true rfl]
        exact fin _
end

section
/-- the facts of the text, from what stands behind the top -/
theorem all_mk {l : PySem.W.OpenLaw} {w : World} {K : PySem.W.Frag} {h : Heap} {mg : Str → Option Value} {fa : Addr} (X : K.In h) (G : h.Ns mainGlobals mg) (hfa : mg "law" = some (.ref fa))
    {f0 : Addr} {od0 an0 : Option Addr} {sl0 : Array (Option Value)} {oc0 kV0 dc0 pm0 cd0 ct0 : Value}
    {f1 : Addr} {od1 an1 : Option Addr} {sl1 : Array (Option Value)} {oc1 kV1 dc1 pm1 cd1 ct1 : Value}
    {f2 : Addr} {od2 an2 : Option Addr} {sl2 : Array (Option Value)} {oc2 kV2 dc2 pm2 cd2 ct2 : Value}
    {f3 : Addr} {od3 an3 : Option Addr} {sl3 : Array (Option Value)} {oc3 kV3 dc3 pm3 cd3 ct3 : Value}
    {f4 : Addr} {od4 an4 : Option Addr} {sl4 : Array (Option Value)} {oc4 kV4 dc4 pm4 cd4 ct4 : Value}
    {f5 : Addr} {od5 an5 : Option Addr} {sl5 : Array (Option Value)} {oc5 kV5 dc5 pm5 cd5 ct5 : Value}
    {f6 : Addr} {od6 an6 : Option Addr} {sl6 : Array (Option Value)} {oc6 kV6 dc6 pm6 cd6 ct6 : Value}
    {f7 : Addr} {od7 an7 : Option Addr} {sl7 : Array (Option Value)} {oc7 kV7 dc7 pm7 cd7 ct7 : Value}
    {f8 : Addr} {od8 an8 : Option Addr} {sl8 : Array (Option Value)} {oc8 kV8 dc8 pm8 cd8 ct8 : Value}
    {f9 : Addr} {od9 an9 : Option Addr} {sl9 : Array (Option Value)} {oc9 kV9 dc9 pm9 cd9 ct9 : Value}
    {f10 : Addr} {od10 an10 : Option Addr} {sl10 : Array (Option Value)} {oc10 kV10 dc10 pm10 cd10 ct10 : Value}
    {f11 : Addr} {od11 an11 : Option Addr} {sl11 : Array (Option Value)} {oc11 kV11 dc11 pm11 cd11 ct11 : Value}
    {f12 : Addr} {od12 an12 : Option Addr} {sl12 : Array (Option Value)} {oc12 kV12 dc12 pm12 cd12 ct12 : Value}
    {f13 : Addr} {od13 an13 : Option Addr} {sl13 : Array (Option Value)} {oc13 kV13 dc13 pm13 cd13 ct13 : Value}
    {f14 : Addr} {od14 an14 : Option Addr} {sl14 : Array (Option Value)} {oc14 kV14 dc14 pm14 cd14 ct14 : Value}
    {f15 : Addr} {od15 an15 : Option Addr} {sl15 : Array (Option Value)} {oc15 kV15 dc15 pm15 cd15 ct15 : Value}
    {f16 : Addr} {od16 an16 : Option Addr} {sl16 : Array (Option Value)} {oc16 kV16 dc16 pm16 cd16 ct16 : Value}
    {f17 : Addr} {od17 an17 : Option Addr} {sl17 : Array (Option Value)} {oc17 kV17 dc17 pm17 cd17 ct17 : Value}
    {CM fI : Addr} {odI anI : Option Addr} {slI : Array (Option Value)} {ocI kVI dcI pmI cdI ctI : Value}
    {e0_C e0_N : Addr} {e0_nm e0_q e0_nk : Str} {e0_tk : Tok} {e0_bs : List Value} {e0_sn : List Str} {e0_sub : List Value} {e0_ab : Bool} {e0_col : Option Bool} {e0_dd : Option Addr} {e0_m0 e0_m1 e0_m3 e0_m5 : Option Value}
    (a0 : PySem.W.nsIn K mainGlobals "_wording" = some (some (.ref f0))) (l0 : K.lookup f0 = some ⟨oc0, od0, .func (PySem.W.fnOf "_wording" "_wording" (defArgs s_wording) (defBody s_wording) (defScope s_wording) .none kV0 dc0 pm0 an0 cd0 ct0), sl0⟩) (c0 : PySem.W.codeIn K cd0 "_wording" = true) (k0 : PySem.W.keepIn K (.ref f0) = true)
    (a1 : PySem.W.nsIn K mainGlobals "port_texts" = some (some (.ref f1))) (l1 : K.lookup f1 = some ⟨oc1, od1, .func (PySem.W.fnOf "port_texts" "port_texts" (defArgs s_port_texts) (defBody s_port_texts) (defScope s_port_texts) .none kV1 dc1 pm1 an1 cd1 ct1), sl1⟩) (c1 : PySem.W.codeIn K cd1 "port_texts" = true) (k1 : PySem.W.keepIn K (.ref f1) = true)
    (a2 : PySem.W.nsIn K mainGlobals "_by_name" = some (some (.ref f2))) (l2 : K.lookup f2 = some ⟨oc2, od2, .func (PySem.W.fnOf "_by_name" "_by_name" (defArgs s_by_name) (defBody s_by_name) (defScope s_by_name) .none kV2 dc2 pm2 an2 cd2 ct2), sl2⟩) (c2 : PySem.W.codeIn K cd2 "_by_name" = true) (k2 : PySem.W.keepIn K (.ref f2) = true)
    (a3 : PySem.W.nsIn K mainGlobals "_groups" = some (some (.ref f3))) (l3 : K.lookup f3 = some ⟨oc3, od3, .func (PySem.W.fnOf "_groups" "_groups" (defArgs s_groups) (defBody s_groups) (defScope s_groups) .none kV3 dc3 pm3 an3 cd3 ct3), sl3⟩) (c3 : PySem.W.codeIn K cd3 "_groups" = true) (k3 : PySem.W.keepIn K (.ref f3) = true)
    (a4 : PySem.W.nsIn K mainGlobals "_nodes_of" = some (some (.ref f4))) (l4 : K.lookup f4 = some ⟨oc4, od4, .func (PySem.W.fnOf "_nodes_of" "_nodes_of" (defArgs s_nodes_of) (defBody s_nodes_of) (defScope s_nodes_of) .none kV4 dc4 pm4 an4 cd4 ct4), sl4⟩) (c4 : PySem.W.codeIn K cd4 "_nodes_of" = true) (k4 : PySem.W.keepIn K (.ref f4) = true)
    (a5 : PySem.W.nsIn K mainGlobals "nodes" = some (some (.ref f5))) (l5 : K.lookup f5 = some ⟨oc5, od5, .func (PySem.W.fnOf "nodes" "nodes" (defArgs s_nodes) (defBody s_nodes) (defScope s_nodes) .none kV5 dc5 pm5 an5 cd5 ct5), sl5⟩) (c5 : PySem.W.codeIn K cd5 "nodes" = true) (k5 : PySem.W.keepIn K (.ref f5) = true)
    (a6 : PySem.W.nsIn K mainGlobals "_law_draws" = some (some (.ref f6))) (l6 : K.lookup f6 = some ⟨oc6, od6, .func (PySem.W.fnOf "_law_draws" "_law_draws" (defArgs s_law_draws) (defBody s_law_draws) (defScope s_law_draws) .none kV6 dc6 pm6 an6 cd6 ct6), sl6⟩) (c6 : PySem.W.codeIn K cd6 "_law_draws" = true) (k6 : PySem.W.keepIn K (.ref f6) = true)
    (a7 : PySem.W.nsIn K mainGlobals "_law_at" = some (some (.ref f7))) (l7 : K.lookup f7 = some ⟨oc7, od7, .func (PySem.W.fnOf "_law_at" "_law_at" (defArgs s_law_at) (defBody s_law_at) (defScope s_law_at) .none kV7 dc7 pm7 an7 cd7 ct7), sl7⟩) (c7 : PySem.W.codeIn K cd7 "_law_at" = true) (k7 : PySem.W.keepIn K (.ref f7) = true)
    (a8 : PySem.W.nsIn K mainGlobals "_law_pool" = some (some (.ref f8))) (l8 : K.lookup f8 = some ⟨oc8, od8, .func (PySem.W.fnOf "_law_pool" "_law_pool" (defArgs s_law_pool) (defBody s_law_pool) (defScope s_law_pool) .none kV8 dc8 pm8 an8 cd8 ct8), sl8⟩) (c8 : PySem.W.codeIn K cd8 "_law_pool" = true) (k8 : PySem.W.keepIn K (.ref f8) = true)
    (a9 : PySem.W.nsIn K mainGlobals "_law_own" = some (some (.ref f9))) (l9 : K.lookup f9 = some ⟨oc9, od9, .func (PySem.W.fnOf "_law_own" "_law_own" (defArgs s_law_own) (defBody s_law_own) (defScope s_law_own) .none kV9 dc9 pm9 an9 cd9 ct9), sl9⟩) (c9 : PySem.W.codeIn K cd9 "_law_own" = true) (k9 : PySem.W.keepIn K (.ref f9) = true)
    (a10 : PySem.W.nsIn K mainGlobals "_law_part_laws" = some (some (.ref f10))) (l10 : K.lookup f10 = some ⟨oc10, od10, .func (PySem.W.fnOf "_law_part_laws" "_law_part_laws" (defArgs s_law_part_laws) (defBody s_law_part_laws) (defScope s_law_part_laws) .none kV10 dc10 pm10 an10 cd10 ct10), sl10⟩) (c10 : PySem.W.codeIn K cd10 "_law_part_laws" = true) (k10 : PySem.W.keepIn K (.ref f10) = true)
    (a11 : PySem.W.nsIn K mainGlobals "_law_part" = some (some (.ref f11))) (l11 : K.lookup f11 = some ⟨oc11, od11, .func (PySem.W.fnOf "_law_part" "_law_part" (defArgs s_law_part) (defBody s_law_part) (defScope s_law_part) .none kV11 dc11 pm11 an11 cd11 ct11), sl11⟩) (c11 : PySem.W.codeIn K cd11 "_law_part" = true) (k11 : PySem.W.keepIn K (.ref f11) = true)
    (a12 : PySem.W.nsIn K mainGlobals "_law_book" = some (some (.ref f12))) (l12 : K.lookup f12 = some ⟨oc12, od12, .func (PySem.W.fnOf "_law_book" "_law_book" (defArgs s_law_book) (defBody s_law_book) (defScope s_law_book) .none kV12 dc12 pm12 an12 cd12 ct12), sl12⟩) (c12 : PySem.W.codeIn K cd12 "_law_book" = true) (k12 : PySem.W.keepIn K (.ref f12) = true)
    (a13 : PySem.W.nsIn K mainGlobals "_law_texts" = some (some (.ref f13))) (l13 : K.lookup f13 = some ⟨oc13, od13, .func (PySem.W.fnOf "_law_texts" "_law_texts" (defArgs s_law_texts) (defBody s_law_texts) (defScope s_law_texts) .none kV13 dc13 pm13 an13 cd13 ct13), sl13⟩) (c13 : PySem.W.codeIn K cd13 "_law_texts" = true) (k13 : PySem.W.keepIn K (.ref f13) = true)
    (a14 : PySem.W.nsIn K mainGlobals "_law_nodes" = some (some (.ref f14))) (l14 : K.lookup f14 = some ⟨oc14, od14, .func (PySem.W.fnOf "_law_nodes" "_law_nodes" (defArgs s_law_nodes) (defBody s_law_nodes) (defScope s_law_nodes) .none kV14 dc14 pm14 an14 cd14 ct14), sl14⟩) (c14 : PySem.W.codeIn K cd14 "_law_nodes" = true) (k14 : PySem.W.keepIn K (.ref f14) = true)
    (a15 : PySem.W.nsIn K mainGlobals "_law_great" = some (some (.ref f15))) (l15 : K.lookup f15 = some ⟨oc15, od15, .func (PySem.W.fnOf "_law_great" "_law_great" (defArgs s_law_great) (defBody s_law_great) (defScope s_law_great) .none kV15 dc15 pm15 an15 cd15 ct15), sl15⟩) (c15 : PySem.W.codeIn K cd15 "_law_great" = true) (k15 : PySem.W.keepIn K (.ref f15) = true)
    (a16 : PySem.W.nsIn K mainGlobals "_law_more" = some (some (.ref f16))) (l16 : K.lookup f16 = some ⟨oc16, od16, .func (PySem.W.fnOf "_law_more" "_law_more" (defArgs s_law_more) (defBody s_law_more) (defScope s_law_more) .none kV16 dc16 pm16 an16 cd16 ct16), sl16⟩) (c16 : PySem.W.codeIn K cd16 "_law_more" = true) (k16 : PySem.W.keepIn K (.ref f16) = true)
    (a17 : PySem.W.nsIn K mainGlobals "law" = some (some (.ref f17))) (l17 : K.lookup f17 = some ⟨oc17, od17, .func (PySem.W.fnOf "law" "law" (defArgs s_law) (defBody s_law) (defScope s_law) .none kV17 dc17 pm17 an17 cd17 ct17), sl17⟩) (c17 : PySem.W.codeIn K cd17 "law" = true) (k17 : PySem.W.keepIn K (.ref f17) = true)
    (z_abs : PySem.W.nsIn K mainGlobals "abs" = some none)
    (z_enumerate : PySem.W.nsIn K mainGlobals "enumerate" = some none)
    (z_int : PySem.W.nsIn K mainGlobals "int" = some none)
    (z_isinstance : PySem.W.nsIn K mainGlobals "isinstance" = some none)
    (z_len : PySem.W.nsIn K mainGlobals "len" = some none)
    (z_list : PySem.W.nsIn K mainGlobals "list" = some none)
    (z_min : PySem.W.nsIn K mainGlobals "min" = some none)
    (z_range : PySem.W.nsIn K mainGlobals "range" = some none)
    (z_repr : PySem.W.nsIn K mainGlobals "repr" = some none)
    (aM : PySem.W.nsIn K mainGlobals "ModelError" = some (some (.ref CM)))
    (zV : PySem.W.nsIn K mainGlobals "ValueError" = some none)
    (vV : PySem.W.findCls K (.type "ValueError") (.type "type") "__init__" = some (.val (.builtin "ValueError.__init__")))
    (iM : PySem.W.isClsIn K CM = true)
    (tM : PySem.W.typeIn K (.ref CM) = some (.type "type"))
    (bM : PySem.W.subIn K (.ref CM) (.type "BaseException") = some true)
    (iI : PySem.W.findIn K (.ref CM) "__init__" = some (some (.ref fI)))
    (lI : K.lookup fI = some ⟨ocI, odI, .func (PySem.W.fnOf "__init__" "ModelError.__init__" (defArgs s_init) (defBody s_init) (defScope s_init) .none kVI dcI pmI anI cdI ctI), slI⟩)
    (cI : PySem.W.codeIn K cdI "ModelError.__init__" = true)
    (kI : PySem.W.keepIn K (.ref fI) = true)
    (tI : PySem.W.typeIn K (.ref fI) = some (.type "function"))
    (xsp : PySem.W.specialIn K (.builtin "object.__class__") "__get__" = some (some (.builtin "getset_descriptor.__get__")))
    (xtk : PySem.W.takesIn K (.builtin "object.__class__") = some true)
    (e0_a : PySem.W.nsIn K mainGlobals "NoPart" = some (some (.ref e0_C)))
    (e0_x : K.lookup e0_C = some (excClassObj e0_nm e0_q e0_C e0_N e0_bs [.ref CM, .type "ValueError", .type "Exception", .type "BaseException", .type "object"] true e0_sn e0_sub e0_ab e0_col e0_dd e0_m0 e0_m1 (some (.str e0_nk e0_tk)) e0_m3 e0_m5 "ValueError.__new__"))
    (e0_sz : e0_nk.length ≤ 1000)
    (e0_sa : PySem.W.findIn K (.ref e0_C) "__setattr__" = some (some (.builtin "object.__setattr__")))
    (e0_ga : PySem.W.findIn K (.ref e0_C) "__getattribute__" = some (some (.builtin "BaseException.__getattribute__")))
    (e0_gg : PySem.W.findIn K (.ref e0_C) "__getattr__" = some none)
    (e0_no : PySem.W.findIn K (.ref e0_C) "at" = some none)
    (e0_in : PySem.W.findIn K (.ref e0_C) "__init__" = some (some (.ref fI)))
    (e0_be : PySem.W.subIn K (.ref e0_C) (.type "BaseException") = some true)
    (e0_ty : PySem.W.typeIn K (.ref e0_C) = some (.type "type"))
    (e0_ke : PySem.W.keepIn K (.ref e0_C) = true)
    (e0_hd : PySem.W.hasDictIn K e0_C = true)
    (e0_cl : PySem.W.isClsIn K e0_C = true)
    (e0_at : PySem.W.findIn K (.ref e0_C) "__class__" = some (some (.builtin "object.__class__")))
    (e0_mr : PySem.W.mroIn K e0_C (.type "object") = some true)
    (e0_rd : PySem.W.readsIn K e0_C (.type "type") = true)
    (e0_fc : PySem.W.findCls K (.ref e0_C) (.type "type") "__name__" = some (.get (.builtin "getset_descriptor.__get__") (.builtin "type.__name__") (.ref e0_C) (.type "type")))
    (e0_sM : PySem.W.subIn K (.ref e0_C) (.ref CM) = some true)
    (sS : PySem.W.subIn K (.ref e0_C) (.ref e0_C) = some true)
    : ∃ fd : FuncData, (∀ (s : Shared) (v : Value), BindsTo s fd ⟨[v], []⟩ [("script", v)]) ∧ ∀ base : Heap, K.In base → base.Ns mainGlobals mg → LG.FnG l.prog w K mg base CX0 6 fa fd ["script"] (sp_law K) := by
  have e := hfa.symm.trans (PySem.W.mg_of X G a17)
  cases e
  let T : Txt K mg := {
    wording := ⟨_, _, fun_mk (st := s_wording) l0 c0 k0, (fun_mk (st := s_wording) l0 c0 k0).binds (ps := ["name", "at"]) (fun _ _ _ _ _ _ us hl => match us, hl with | [_, _], _ => rfl), PySem.W.mg_of X G a0⟩
    port_texts := ⟨_, _, fun_mk (st := s_port_texts) l1 c1 k1, (fun_mk (st := s_port_texts) l1 c1 k1).binds (ps := ["part", "before"]) (fun _ _ _ _ _ _ us hl => match us, hl with | [_, _], _ => rfl), PySem.W.mg_of X G a1⟩
    by_name := ⟨_, _, fun_mk (st := s_by_name) l2 c2 k2, (fun_mk (st := s_by_name) l2 c2 k2).binds (ps := ["book", "name"]) (fun _ _ _ _ _ _ us hl => match us, hl with | [_, _], _ => rfl), PySem.W.mg_of X G a2⟩
    groups := ⟨_, _, fun_mk (st := s_groups) l3 c3 k3, (fun_mk (st := s_groups) l3 c3 k3).binds (ps := ["texts", "joints"]) (fun _ _ _ _ _ _ us hl => match us, hl with | [_, _], _ => rfl), PySem.W.mg_of X G a3⟩
    nodes_of := ⟨_, _, fun_mk (st := s_nodes_of) l4 c4 k4, (fun_mk (st := s_nodes_of) l4 c4 k4).binds (ps := ["part", "before"]) (fun _ _ _ _ _ _ us hl => match us, hl with | [_, _], _ => rfl), PySem.W.mg_of X G a4⟩
    nodes := ⟨_, _, fun_mk (st := s_nodes) l5 c5 k5, (fun_mk (st := s_nodes) l5 c5 k5).binds (ps := ["book", "name"]) (fun _ _ _ _ _ _ us hl => match us, hl with | [_, _], _ => rfl), PySem.W.mg_of X G a5⟩
    law_draws := ⟨_, _, fun_mk (st := s_law_draws) l6 c6 k6, (fun_mk (st := s_law_draws) l6 c6 k6).binds (ps := ["script"]) (fun _ _ _ _ _ _ us hl => match us, hl with | [_], _ => rfl), PySem.W.mg_of X G a6⟩
    law_at := ⟨_, _, fun_mk (st := s_law_at) l7 c7 k7, (fun_mk (st := s_law_at) l7 c7 k7).binds (ps := ["draws", "k", "many"]) (fun _ _ _ _ _ _ us hl => match us, hl with | [_, _, _], _ => rfl), PySem.W.mg_of X G a7⟩
    law_pool := ⟨_, _, fun_mk (st := s_law_pool) l8 c8 k8, (fun_mk (st := s_law_pool) l8 c8 k8).binds (ps := ["draws", "k"]) (fun _ _ _ _ _ _ us hl => match us, hl with | [_, _], _ => rfl), PySem.W.mg_of X G a8⟩
    law_own := ⟨_, _, fun_mk (st := s_law_own) l9 c9 k9, (fun_mk (st := s_law_own) l9 c9 k9).binds (ps := ["part"]) (fun _ _ _ _ _ _ us hl => match us, hl with | [_], _ => rfl), PySem.W.mg_of X G a9⟩
    law_part_laws := ⟨_, _, fun_mk (st := s_law_part_laws) l10 c10 k10, (fun_mk (st := s_law_part_laws) l10 c10 k10).binds (ps := ["draws", "k", "part", "pool", "many"]) (fun _ _ _ _ _ _ us hl => match us, hl with | [_, _, _, _, _], _ => rfl), PySem.W.mg_of X G a10⟩
    law_part := ⟨_, _, fun_mk (st := s_law_part) l11 c11 k11, (fun_mk (st := s_law_part) l11 c11 k11).binds (ps := ["draws", "k", "name", "book"]) (fun _ _ _ _ _ _ us hl => match us, hl with | [_, _, _, _], _ => rfl), PySem.W.mg_of X G a11⟩
    law_book := ⟨_, _, fun_mk (st := s_law_book) l12 c12 k12, (fun_mk (st := s_law_book) l12 c12 k12).binds (ps := ["draws", "first", "most"]) (fun _ _ _ _ _ _ us hl => match us, hl with | [_, _, _], _ => rfl), PySem.W.mg_of X G a12⟩
    law_texts := ⟨_, _, fun_mk (st := s_law_texts) l13 c13 k13, (fun_mk (st := s_law_texts) l13 c13 k13).binds (ps := ["book", "part"]) (fun _ _ _ _ _ _ us hl => match us, hl with | [_, _], _ => rfl), PySem.W.mg_of X G a13⟩
    law_nodes := ⟨_, _, fun_mk (st := s_law_nodes) l14 c14 k14, (fun_mk (st := s_law_nodes) l14 c14 k14).binds (ps := ["book", "part"]) (fun _ _ _ _ _ _ us hl => match us, hl with | [_, _], _ => rfl), PySem.W.mg_of X G a14⟩
    law_great := ⟨_, _, fun_mk (st := s_law_great) l15 c15 k15, (fun_mk (st := s_law_great) l15 c15 k15).binds (ps := ["draws"]) (fun _ _ _ _ _ _ us hl => match us, hl with | [_], _ => rfl), PySem.W.mg_of X G a15⟩
    law_more := ⟨_, _, fun_mk (st := s_law_more) l16 c16 k16, (fun_mk (st := s_law_more) l16 c16 k16).binds (ps := ["draws", "part"]) (fun _ _ _ _ _ _ us hl => match us, hl with | [_, _], _ => rfl), PySem.W.mg_of X G a16⟩
    law := ⟨_, _, fun_mk (st := s_law) l17 c17 k17, (fun_mk (st := s_law) l17 c17 k17).binds (ps := ["script"]) (fun _ _ _ _ _ _ us hl => match us, hl with | [_], _ => rfl), PySem.W.mg_of X G a17⟩
    m_abs := PySem.W.mg_none_of X G z_abs
    m_enumerate := PySem.W.mg_none_of X G z_enumerate
    m_int := PySem.W.mg_none_of X G z_int
    m_isinstance := PySem.W.mg_none_of X G z_isinstance
    m_len := PySem.W.mg_none_of X G z_len
    m_list := PySem.W.mg_none_of X G z_list
    m_min := PySem.W.mg_none_of X G z_min
    m_range := PySem.W.mg_none_of X G z_range
    m_repr := PySem.W.mg_none_of X G z_repr
  }
  let E : Errs K mg := {
    e0 := ⟨CM, fI, _, fun_mk (st := s_init) lI cI kI, (fun_mk (st := s_init) lI cI kI).binds (ps := ["self", "at"]) (fun _ _ _ _ _ _ us hl => match us, hl with | [_, _], _ => rfl), tI, PySem.W.mg_of X G aM, PySem.W.mg_none_of X G zV, vV⟩
    NoPart := { C := e0_C, nm := e0_nk, named := ⟨⟨e0_cl, e0_ga, e0_gg, e0_be, e0_at, xsp, xtk, e0_mr⟩, e0_rd, e0_fc, e0_ty, ⟨_, _, e0_x, rfl⟩, e0_sz⟩, oex := ⟨⟨_, _, _, _, _, _, _, _, _, _, _, _, _, _, _, e0_x, LX.refs_one _⟩, e0_sa, e0_be, e0_ty, e0_ke⟩, noAt := e0_no, iC := e0_in, g := PySem.W.mg_of X G e0_a, exm := LX.exm_is bM iM tM e0_sM, kit := LX.kit_self _ _, xf := ⟨e0_ga, e0_gg, e0_be, e0_hd⟩ }
    exS := LX.exm_is e0_be e0_cl e0_ty sS
  }
  exact ⟨PySem.W.fnOf "law" "law" (defArgs s_law) (defBody s_law) (defScope s_law) .none kV17 dc17 pm17 an17 cd17 ct17, fun s v => .of_eq rfl, fun base _ _ => ok_law T E⟩
theorem walk {l : PySem.W.OpenLaw} {q : Program} {loose : List Str} {XP : (Str → Option Value) → Heap → Prop} {YP : World → Heap → Prop} {d : DefRec} {K : Params → PySem.W.Frag} (hn : l.most = some 63) (hdf : d.params.defaults = [])
    (hY : ∀ (w : World) (h : Heap), YP w h → (K w.params).In h)
    (F : ∀ (w : World) (mg : Str → Option Value) (fa : Addr) (h : Heap), (K w.params).In h → h.Ns mainGlobals mg → mg d.name = some (.ref fa) →
      ∃ fd : FuncData, (∀ (s : Shared) (u : Value), BindsTo s fd ⟨[u], []⟩ [("script", u)]) ∧ ∀ base : Heap, (K w.params).In base → base.Ns mainGlobals mg → LG.FnG l.prog w (K w.params) mg base CX0 6 fa fd ["script"] (sp_law (K w.params))) :
    PySem.W.WalkO q loose XP YP l.row.toRowW d [] (fun f vs => PySem.call f vs) :=
  LG.walkG (n := 63) (k := 6) (x := "script") (sp := sp_law) hn (by decide) hdf ⟨rfl, by decide, by decide⟩ hY F fun _ _ a ns hl _ hS => ⟨a, ns, rfl, hS, hl, fun _ => rfl⟩
end
end K08

open PySem PySem.W PyProof.Rows in
set_option maxRecDepth 100000 in
set_option maxHeartbeats 0 in
theorem PySem.Challenge.cw_unsaidsizes_k08_nodes_of_a_part_holds : PySem.Challenge.rw_unsaidsizes_k08_nodes_of_a_part.Holds := by
  w_on; o_law; k_head; (case hw => w_witness2)
  k_fill
  refine K08.walk (l := PySem.Challenge.rw_unsaidsizes_k08_nodes_of_a_part) rfl rfl (fun w h Y => PySem.W.kIn_of Y) ?F
  case F =>
    intro w mg fa h KX G hmg
    refine' K08.all_mk KX G hmg ?a0 ?l0 ?c0 ?k0 ?a1 ?l1 ?c1 ?k1 ?a2 ?l2 ?c2 ?k2 ?a3 ?l3 ?c3 ?k3 ?a4 ?l4 ?c4 ?k4 ?a5 ?l5 ?c5 ?k5 ?a6 ?l6 ?c6 ?k6 ?a7 ?l7 ?c7 ?k7 ?a8 ?l8 ?c8 ?k8 ?a9 ?l9 ?c9 ?k9 ?a10 ?l10 ?c10 ?k10 ?a11 ?l11 ?c11 ?k11 ?a12 ?l12 ?c12 ?k12 ?a13 ?l13 ?c13 ?k13 ?a14 ?l14 ?c14 ?k14 ?a15 ?l15 ?c15 ?k15 ?a16 ?l16 ?c16 ?k16 ?a17 ?l17 ?c17 ?k17 ?z_abs ?z_enumerate ?z_int ?z_isinstance ?z_len ?z_list ?z_min ?z_range ?z_repr ?aM ?zV ?vV ?iM ?tM ?bM ?iI ?lI ?cI ?kI ?tI ?xsp ?xtk ?e0_a ?e0_x ?e0_sz ?e0_sa ?e0_ga ?e0_gg ?e0_no ?e0_in ?e0_be ?e0_ty ?e0_ke ?e0_hd ?e0_cl ?e0_at ?e0_mr ?e0_rd ?e0_fc ?e0_sM ?sS
    (case a0 => k_is)
    (case l0 => k_is)
    (case c0 => k_is)
    (case k0 => k_is)
    (case a1 => k_is)
    (case l1 => k_is)
    (case c1 => k_is)
    (case k1 => k_is)
    (case a2 => k_is)
    (case l2 => k_is)
    (case c2 => k_is)
    (case k2 => k_is)
    (case a3 => k_is)
    (case l3 => k_is)
    (case c3 => k_is)
    (case k3 => k_is)
    (case a4 => k_is)
    (case l4 => k_is)
    (case c4 => k_is)
    (case k4 => k_is)
    (case a5 => k_is)
    (case l5 => k_is)
    (case c5 => k_is)
    (case k5 => k_is)
    (case a6 => k_is)
    (case l6 => k_is)
    (case c6 => k_is)
    (case k6 => k_is)
    (case a7 => k_is)
    (case l7 => k_is)
    (case c7 => k_is)
    (case k7 => k_is)
    (case a8 => k_is)
    (case l8 => k_is)
    (case c8 => k_is)
    (case k8 => k_is)
    (case a9 => k_is)
    (case l9 => k_is)
    (case c9 => k_is)
    (case k9 => k_is)
    (case a10 => k_is)
    (case l10 => k_is)
    (case c10 => k_is)
    (case k10 => k_is)
    (case a11 => k_is)
    (case l11 => k_is)
    (case c11 => k_is)
    (case k11 => k_is)
    (case a12 => k_is)
    (case l12 => k_is)
    (case c12 => k_is)
    (case k12 => k_is)
    (case a13 => k_is)
    (case l13 => k_is)
    (case c13 => k_is)
    (case k13 => k_is)
    (case a14 => k_is)
    (case l14 => k_is)
    (case c14 => k_is)
    (case k14 => k_is)
    (case a15 => k_is)
    (case l15 => k_is)
    (case c15 => k_is)
    (case k15 => k_is)
    (case a16 => k_is)
    (case l16 => k_is)
    (case c16 => k_is)
    (case k16 => k_is)
    (case a17 => k_is)
    (case l17 => k_is)
    (case c17 => k_is)
    (case k17 => k_is)
    (case z_abs => k_is)
    (case z_enumerate => k_is)
    (case z_int => k_is)
    (case z_isinstance => k_is)
    (case z_len => k_is)
    (case z_list => k_is)
    (case z_min => k_is)
    (case z_range => k_is)
    (case z_repr => k_is)
    (case aM => k_is)
    (case zV => k_is)
    (case vV => k_is)
    (case iM => k_is)
    (case tM => k_is)
    (case bM => k_is)
    (case iI => k_is)
    (case lI => k_is)
    (case cI => k_is)
    (case kI => k_is)
    (case tI => k_is)
    (case xsp => k_is)
    (case xtk => k_is)
    (case e0_a => k_is)
    (case e0_x => k_is)
    (case e0_sz => decide +kernel)
    (case e0_sa => k_is)
    (case e0_ga => k_is)
    (case e0_gg => k_is)
    (case e0_no => k_is)
    (case e0_in => k_is)
    (case e0_be => k_is)
    (case e0_ty => k_is)
    (case e0_ke => k_is)
    (case e0_hd => k_is)
    (case e0_cl => k_is)
    (case e0_at => k_is)
    (case e0_mr => k_is)
    (case e0_rd => k_is)
    (case e0_fc => k_is)
    (case e0_sM => k_is)
    (case sS => k_is)
