import PyProof.Rows.All
import Wide.All
import OpenK.AllK
import Wide.FinOn
import KE.KNest
import PyProof.ReprRoads
import PyProof.StrLawsRepr
import PyProof.FitsInt
import PyProof.StrBlock2
import HandS.Base
import HandS.Call
import HandS.List
import HandS.Comp
import HandS.Nested
import HandS.AnyAll
import HandS.Ends
import HandS.EndBits
import HandS.Iter
import HandS.Wide
import HandS.WideBits
import HandS.Words
import HandS.WordsList
import HandS.IsInst
import HandS.TupLe
import HandS.SetBool
import HandS.Deep
import HandS.Walk
import HandS.Set
import HandS.Strs
import HandS.More
import HandS.DictComp
import HandS.Dict
import HandS.SortRule
import HandS.Style
import PyProof.ListOps
import PyProof.Rows.SetFrom
import PyProof.SumAny
import KE.KTypeName
import KE.KExcIs
import HandS.Gcd
import HandS.WordsExc
import HandS.Exc
import HandS.ExcOwn
import HandS.ExcInit
import HandS.ExcField
import HandS.FStr
import PySem.Challenge.RW_unsaidsizes_k50_tight_numbers_and_places
set_option Elab.async false
set_option linter.all false
set_option maxRecDepth 100000
set_option maxHeartbeats 4000000
-- G
/-! calls under which no text of a list is being made (for repr of lists) -/
namespace LG
open PySem PySem.Spec PyProof.Rows L2
/-- as FnOk, for callers of which it is known that no guard stands -/
structure FnG (P : Program) (w : World) (K : PySem.W.Frag) (mg : Str → Option Value) (base : Heap) (CX : CXT) (k : Nat) (f : Addr) (fd : FuncData) (ps : List Str) (sp : Sp) : Prop where
  len : ∀ vs H Q E, sp vs H Q E → vs.length = ps.length
  run : ∀ (A : Around) (ou : List Env) (s : Shared) (H : Hp) (ar : Args) (us : List Value) (vs : List V) (Q : VK) (E : XK), Room k A → A.guards = some [] → Env0 P w K mg base A ou s H →
    BindsTo s fd ar (ps.zip us) → Vals vs us → sp vs H Q E → codeAny (model P w) A (.call (.ref f) ar) (CR CX ou P w H s Q E) s
section
variable {P : Program} {w : World} {K : PySem.W.Frag} {mg : Str → Option Value} {base : Heap} {CX : CXT} {k : Nat} {f : Addr} {fd : FuncData} {ps : List Str} {sp : Sp}
theorem deeper_guards {A : Around} (e : Env) (h : A.guards = some []) : (A.deeper e).guards = some [] := h
theorem g_of_ok (F : FnOk P w K mg base CX k f fd ps sp) : FnG P w K mg base CX k f fd ps sp := ⟨F.len, fun A ou s H ar us vs Q E hr _ => F.run A ou s H ar us vs Q E hr⟩

/-- a def's body keeps its promise, under known guards -/
theorem fnG_of {nm qu : Str} {pa : Arguments} {bo : List Stmt} {sc : Scope} {dv kv dc pm cd ct oc : Value} {an od : Option Addr} {sl : Array (Option Value)} {N : List Str}
    (hf : K.lookup f = some ⟨oc, od, .func (PySem.W.fnOf nm qu pa bo sc dv kv dc pm an cd ct), sl⟩) (hq : PySem.W.codeIn K cd qu = true) (S : FnScope N ps sc) (ln : ∀ vs H Q E, sp vs H Q E → vs.length = ps.length)
    (hb : ∀ (A : Around) (ou : List Env) (s : Shared) (H : Hp) (vs : List V) (Q : VK) (E : XK), Room k (A.deeper (envOfC qu sc s.heap.objs.size f cd)) → A.guards = some [] → sp vs H Q E →
      ∃ t, PSs (cxOf CX P w K mg base N qu sc f cd A ou s H E) bo t ∧ t { nx := fun _ G => Q .non G, rt := Q } (L2.start N vs) H) :
    FnG P w K mg base CX (k + 1) f (PySem.W.fnOf nm qu pa bo sc dv kv dc pm an cd ct) ps sp := by
  refine ⟨ln, fun A ou s H ar us vs Q E room gd en bd rel want => ?_⟩
  have there : K.In s.heap := en.mod.kin.keeps fun b o z => (en.bs b o z).1
  have nl : s.heap.NoLimit := en.mod.nolimit.keeps fun b o z => (en.bs b o z).1
  refine codeAny_call_function room.depth (there _ _ hf) rfl S.co S.gen rfl (PySem.W.codeRec_of there hq) (bd _ _ _ _ ?_)
  refine wpAny_newFunctionEnv_cells S.kind (fun y hy => ?_) fun env eenv s1 x => ?_
  · obtain ⟨n, v⟩ := y
    exact (S.par n (List.of_mem_zip hy).1).imp id fun q => ⟨q, PySem.W.cellsFrom_some _ _ _ (.inl q)⟩
  subst eenv
  refine ⟨nl.keeps x.toInCall.keep, codeAny_func ?_⟩
  obtain ⟨t, ht, hw⟩ := hb A ou s H vs Q E (room.deeper _) gd want
  have J0 := inv_start (CX := CX) (E := E) S room.hd en (ln _ _ _ _ want) rel x
  refine wpAny_mono (ht.run [] s1 (L2.start N vs) H _ J0 hw) (fun fl s' hs => ?_) fun e s' hs => hs
  cases fl with
  | brk => exact False.elim hs.choose_spec.choose_spec.2
  | cont => exact False.elim hs.choose_spec.choose_spec.2
  | ret u =>
    obtain ⟨v, _, G, J, rv, q⟩ := hs
    exact ⟨v, G, J.os, J.bare, J.base, J.hok, rv, q⟩
  | next =>
    obtain ⟨_, G, J, q⟩ := hs
    exact ⟨V.non, G, J.os, J.bare, J.base, J.hok, rfl, q⟩
/-- .. by the text -/
theorem fun_okG {x qual : Str} {st : Stmt} {N : List Str} (F : Fun K x qual st f fd) (S : FnScope N ps (defScope st)) (ln : ∀ vs H Q E, sp vs H Q E → vs.length = ps.length)
    (hb : ∀ (cd : Value) (A : Around) (ou : List Env) (s : Shared) (H : Hp) (vs : List V) (Q : VK) (E : XK), Room k (A.deeper (envOfC qual (defScope st) s.heap.objs.size f cd)) → A.guards = some [] → sp vs H Q E →
      ∃ t, PSs (cxOf CX0 P w K mg base N qual (defScope st) f cd A ou s H E).nox (defBody st) t ∧ t { nx := fun _ G => Q .non G, rt := Q } (L2.start N vs) H) : FnG P w K mg base CX0 (k + 1) f fd ps sp := by
  obtain ⟨oc, od, kV, doc, pm, an, cd, ct, osl, rfl, lk, hc⟩ := F.ex
  refine fnG_of lk hc S ln fun A ou s H vs Q E hr hg want => ?_
  obtain ⟨t, h, q⟩ := hb cd A ou s H vs Q E hr hg want
  exact ⟨t, h.nox, q⟩
end
section
variable {X : Cx} {CX : CXT} {k : Nat} {f : Addr} {fd : FuncData} {ps : List Str} {sp : Sp} {dvs : List V} {ds : List Value} {E : XK} {x : Str} {p pos : Pos} {e : Expr} {es : List Expr} {t : TA}
theorem pe_callG (F : FnG X.prog X.w X.K X.mg X.base CX k f fd ps sp) (hr : Room k X.A) (gd : X.A.guards = some []) (hg : Gl X x) (hm : X.mg x = some (.ref f)) (hk : PySem.W.keepIn X.K (.ref f) = true) (hb : Binds X.K fd ps ds) (hd : Vals dvs ds) (hx : Passes CX X E)
    (ha : PA X (e :: es) t) (hdb : (x == ("__debug__" : Str)) = false := by decide) (he : starEach (e :: es) X.env = (false, eval e X.env) :: starEach es X.env := by rfl) (hpl : (backTo pos (starEach es X.env)).any (·.1) = false := by rfl) :
    PE X (.Call (.Name x p) (e :: es) [] pos) (tCall sp dvs E t) := by
  refine ⟨fun pins s σ H Q I h => wpAny_Call_Name_kw (ld_glob I hg hm ?_ hdb)⟩
  refine PySem.W.callWith_K (h₀ := X.base) I.ok.mod.kin hk (thn (ha.run pos pins s σ H _ I h) fun us s1 ⟨vs, H1, J, r, q⟩ => ⟨J.kIn, ?_⟩) he hpl
  have r2 : Vals (vs ++ dvs) (us ++ ds) := r.append hd
  have ll : (us ++ ds).length = ps.length := by
    rw [← r2.length]
    exact F.len _ _ _ _ q
  refine wpAny_call (codeAny_mono (F.run X.A X.stack s1 H1 ⟨us, []⟩ (us ++ ds) (vs ++ dvs) Q E hr gd J.env0 (hb s1 us J.kIn ll) r2 q) fun r s' z => ?_)
  cases r with
  | error er => exact hx pins σ H1 s1 er s' J z
  | ok fl =>
    cases fl with
    | ret u => exact J.after z
    | next => exact False.elim z
    | brk => exact False.elim z
    | cont => exact False.elim z
/-- repr of nested data -/
theorem call_reprD (gd : X.A.guards = some []) (hu : X.A.units + 64 < cLine) : CallR X (.builtin "repr") (fun xs H Q => ∃ (a : Addr) (d : PyData), xs = [.ref a] ∧ Dp X.K H (.ref a) d ∧ d.showable = true ∧ d.hasDict = false ∧ d.depth ≤ 60 ∧ d.shown.length ≤ sizeLine ∧ Q (.str d.shown) H) := by
  intro pins s σ H xs us Q I r h
  obtain ⟨a, d, rfl, hd, h1, h2, h3, h4, q⟩ := h
  obtain ⟨u, rfl, e⟩ := vals1 r
  cases (show u = Value.ref a from e)
  obtain ⟨as, rd⟩ := Dp.reads I d (.ref a) (.ref a) hd rfl
  refine PySem.repr_of_reads' rd h1 (fun z => by rw [h2] at z; cases z) gd (by omega) (fun _ _ z => z) (fun h' u tk k => ?_) h4
  exact ⟨.str _, H, I.kept (t' := tk) k, ⟨u, rfl⟩, q⟩
end

/-! the law's own call -/
section
variable {P : Program} {w : World} {K : PySem.W.Frag} {mg mb : Str → Option Value} {k : Nat} {fa a : Addr} {fd : FuncData} {x : Str} {sp : Sp} {s₁ : Shared} {vs : List Value} {ns : List Int}
/-- from one abstract heap, in which the script alone may stand -/
theorem enter (KX : K.In s₁.heap) (gl : s₁.heap.Ns mainGlobals mg) (bl : s₁.heap.Ns builtinsNs mb) (bb : ∀ y : Str, y ≠ "__name__" → mb y = bootBuiltins y) (nl : s₁.heap.NoLimit) (g0 : s₁.gens = #[])
    (at_ : s₁.heap.get? a = some { cls := .type "list", data := .seq vs.toArray }) (room : Room k callerA) (bind : ∀ (s : Shared) (u : Value), BindsTo s fd ⟨[u], []⟩ [(x, u)])
    (F : ∀ base : Heap, K.In base → base.Ns mainGlobals mg → FnG P w K mg base CX0 k fa fd [x] sp) {H : Hp} (only : Only H) (ok : HOk P w H s₁.heap) (alone : ∀ b, H b ≠ none → b = a) (notK : H a ≠ none → K.lookup a = none)
    (want : sp [.ref a] H (fun v _ => v = .bl true) fun _ _ _ => False) :
    codeAny (model P w) callerA (.call (.ref fa) ⟨[.ref a], []⟩) (fun r s' => r = .ok (.ret (.bool true)) ∧ OldK s₁.heap s'.heap ∧ s'.os = s₁.os ∧ AllBare s'.gens) s₁ := by
  have free : ∀ {b : Addr} {o : Obj}, s₁.heap.get? b = some o → (∀ it n, o.data ≠ .seq it n) → H b = none := fun {b o} z nd => by
    cases q : H b with
    | none => rfl
    | some u =>
      obtain rfl := alone b (by rw [q]; exact fun y => nomatch y)
      rw [at_] at z
      cases z
      exact absurd rfl (nd vs.toArray _)
  have nsOf : ∀ {b : Addr} {m : Str → Option Value}, s₁.heap.Ns b m → (hidT s₁.heap H).Ns b m := fun {b m} ⟨o, es, ep, z, d, r⟩ =>
    ⟨o, es, ep, hidT_get z (free z fun it n y => by rw [d] at y; exact nomatch y), d, r⟩
  have inB : K.In (hidT s₁.heap H) := fun b o z => by
    refine hidT_get (KX b o z) ?_
    cases q : H b with
    | none => rfl
    | some u =>
      obtain rfl := alone b (by rw [q]; exact fun y => nomatch y)
      rw [notK (by rw [q]; exact fun y => nomatch y)] at z
      cases z
  have md : Mod K mg (hidT s₁.heap H) := ⟨inB, nsOf gl, ⟨mb, nsOf bl, bb⟩, let ⟨mc, y1, y2⟩ := nl; ⟨mc, nsOf y1, y2⟩⟩
  have en : Env0 P w K mg (hidT s₁.heap H) callerA [] s₁ H := ⟨rfl, md, fun b o z => of_hidT z, Nat.le_of_eq (hidT_size _ _), trivial, fun b z => absurd (show b ∈ ([] : List Addr) from z) (List.not_mem_nil), ok, .of_eq g0⟩
  refine codeAny_mono ((F _ inB (nsOf gl)).run callerA [] s₁ H ⟨[.ref a], []⟩ [.ref a] [.ref a] _ _ room rfl en (bind s₁ (.ref a)) (.cons rfl .nil) want) fun r s' h => ?_
  cases r with
  | error e => exact False.elim h
  | ok fl =>
    cases fl with
    | next => exact False.elim h
    | brk => exact False.elim h
    | cont => exact False.elim h
    | ret u =>
      obtain ⟨v, G, e1, e2, un, okG, rel, q⟩ := h
      obtain rfl : v = V.bl true := q
      obtain rfl : u = Value.bool true := rel
      refine ⟨rfl, OldK.of_keep fun b o z => ?_, e1, e2⟩
      cases q : H b with
      | none => exact un.keep b o z q (fun y => nomatch y) (fun y => nomatch y)
      | some u =>
        rcases only b with y | ⟨ob, xs, y⟩
        · rw [q] at y
          cases y
        · have z1 := (ok b _ y).1
          have z2 := (okG b _ (un.frzs b ob _ y)).1
          rw [z] at z1
          cases z1
          exact z2

theorem enter_all (KX : K.In s₁.heap) (gl : s₁.heap.Ns mainGlobals mg) (bl : s₁.heap.Ns builtinsNs mb) (bb : ∀ y : Str, y ≠ "__name__" → mb y = bootBuiltins y) (nl : s₁.heap.NoLimit) (g0 : s₁.gens = #[])
    (at_ : s₁.heap.get? a = some { cls := .type "list", data := .seq vs.toArray }) (ia : IntsAre vs ns) (small : ns.length ≤ sizeLine) (room : Room k callerA) (bind : ∀ (s : Shared) (u : Value), BindsTo s fd ⟨[u], []⟩ [(x, u)])
    (F : ∀ base : Heap, K.In base → base.Ns mainGlobals mg → FnG P w K mg base CX0 k fa fd [x] sp) (want : ∀ H : Hp, Only H → SqL K H a (ns.map V.int) → sp [.ref a] H (fun v _ => v = .bl true) fun _ _ _ => False) :
    codeAny (model P w) callerA (.call (.ref fa) ⟨[.ref a], []⟩) (fun r s' => r = .ok (.ret (.bool true)) ∧ OldK s₁.heap s'.heap ∧ s'.os = s₁.os ∧ AllBare s'.gens) s₁ := by
  have rel := vals_ints ia
  cases hk : K.lookup a with
  | some o =>
    have z := KX a o hk
    rw [at_] at z
    cases z
    have only : Only (fun _ => none) := fun _ => .inl rfl
    have len := ia.length
    exact enter KX gl bl bb nl g0 at_ room bind F only (fun b u z => by cases z) (fun b z => absurd rfl z) (fun z => absurd rfl z)
      (want _ only (.inr ⟨_, vs.toArray, _, hk, rfl, rfl, rfl, by rw [List.size_toArray, len]; exact small, by simpa using rel⟩))
  | none =>
    let ob : Obj := { cls := .type "list", data := .seq vs.toArray }
    let H : Hp := fun b => if b = a then some (.frz ob (.lst (ns.map V.int))) else none
    have hit : H a = some (.frz ob (.lst (ns.map V.int))) := if_pos rfl
    have one : ∀ b, H b ≠ none → b = a := fun b z => by
      by_cases e : b = a
      · exact e
      · exact absurd (if_neg e) z
    have only : Only H := fun b => by
      by_cases e : b = a
      · exact .inr ⟨ob, ns.map V.int, if_pos e⟩
      · exact .inl (if_neg e)
    refine enter KX gl bl bb nl g0 at_ room bind F only (fun b u z => ?_) one (fun _ => hk) (want H only (.inl (.inr ⟨ob, hit⟩)))
    obtain rfl := one b (by rw [z]; exact fun y => nomatch y)
    rw [hit] at z
    cases z
    exact ⟨at_, by rw [List.length_map]; exact small, vs, _, rel, at_⟩
end
/-- what k_head leaves, from the law's promise -/
theorem walkG {l : PySem.W.OpenLaw} {n k : Nat} {q : Program} {loose : List Str} {XP : (Str → Option Value) → Heap → Prop} {YP : World → Heap → Prop} {d : DefRec} {K : Params → PySem.W.Frag} {sp : PySem.W.Frag → Sp} {x : Str}
    (hn : l.most = some n) (hz : n ≤ sizeLine) (hdf : d.params.defaults = []) (room : Room k callerA) (hY : ∀ (w : World) (h : Heap), YP w h → (K w.params).In h)
    (F : ∀ (w : World) (mg : Str → Option Value) (fa : Addr) (h : Heap), (K w.params).In h → h.Ns mainGlobals mg → mg d.name = some (.ref fa) →
      ∃ fd : FuncData, (∀ (s : Shared) (u : Value), BindsTo s fd ⟨[u], []⟩ [(x, u)]) ∧ ∀ base : Heap, (K w.params).In base → base.Ns mainGlobals mg → FnG l.prog w (K w.params) mg base CX0 k fa fd [x] (sp (K w.params)))
    (want : ∀ (K : PySem.W.Frag) (H : Hp) (a : Addr) (ns : List Int), ns.length ≤ n → Only H → SqL K H a (ns.map V.int) → sp K [.ref a] H (fun v _ => v = .bl true) fun _ _ _ => False) :
    PySem.W.WalkO q loose XP YP l.row.toRowW d [] (fun f vs => PySem.call f vs) := by
  refine Att.attach_call hn hdf fun w s0 s1 mg mb fa o pm cd doc a vs ns G Y ho hd hcd hmg hobj ia len g0 => ?_
  obtain ⟨fd, bi, FF⟩ := F w mg fa _ (hY w _ Y) G.T.g hmg
  exact enter_all (hY w _ Y) G.T.g G.T.b G.T.builtins G.T.nolimit g0 hobj ia (Nat.le_trans len hz) room bi FF fun H only hs => want _ H a ns len only hs
end LG
-- GL
/-! elements of generator expressions that call nothing of the text: values by names, under whatever frames -/
namespace LE
open PySem PySem.Spec PyProof.Rows L2
/-- where such an element is reckoned: the names that it sees, what stands as the def that holds it had it -/
structure Site (X : Cx) (sc : Scope) (H : Hp) (Γ : List (Str × V)) (ce : Env) (t : Shared) : Prop where
  fn : sc.kind = .function
  eqs : ce.scope = sc
  gl : ce.globals = mainGlobals
  bl : ce.builtins = builtinsNs
  mod : Mod X.K X.mg X.base
  bs : ∀ b o, X.base.get? b = some o → t.heap.get? b = some o
  obj : ∀ b u, H b = some u → (∀ q, u ≠ .tbl q) → ObjOk X.prog X.w H t.heap b u
  var : ∀ y v, Γ.lookup y = some v → ∃ u, RelV v u ∧ ((sc.names.lookup y = some .local ∧ ∃ m, t.heap.Ns ce.locals m ∧ m y = some u) ∨ (sc.names.lookup y = some .free ∧ ∃ c, ce.cells.lookup y = some c ∧ t.heap.IsCell c (some u)))
section
variable {X : Cx} {sc : Scope} {H : Hp} {Γ : List (Str × V)} {ce : Env} {t t' : Shared}
theorem Site.keeps (S : Site X sc H Γ ce t) (k : Keeps t t') : Site X sc H Γ ce t' := by
  obtain ⟨h', n, rfl, kk⟩ := k
  refine ⟨S.fn, S.eqs, S.gl, S.bl, S.mod, fun b o e => kk _ _ (S.bs b o e), fun b u e n => (S.obj b u e n).stay (fun c v _ y => kk c v y) (fun _ y => y) fun _ _ y => y, fun y v e => ?_⟩
  obtain ⟨u, r, l⟩ := S.var y v e
  refine ⟨u, r, l.imp (fun ⟨a, m, hn, hm⟩ => ⟨a, m, hn.keeps kk, hm⟩) fun ⟨a, c, hc, o, ho, hd⟩ => ⟨a, c, hc, o, kk _ _ ho, hd⟩⟩
theorem Site.list {p : Addr} {xs : List V} (S : Site X sc H Γ ce t) (h : SqL X.K H p xs) : ∃ its : List Value, Vals xs its ∧ PlainL t.heap p its.toArray ∧ xs.length ≤ sizeLine := by
  rcases h with (h | ⟨o, h⟩) | ⟨o, its, n, hk, hc, hd, hs, hz, r⟩
  · obtain ⟨z, its, n, r, e⟩ := S.obj p _ h fun _ y => nomatch y
    exact ⟨its, r, ⟨_, n, e, rfl, rfl, rfl⟩, z⟩
  · obtain ⟨_, z, its, n, r, e⟩ := S.obj p _ h fun _ y => nomatch y
    exact ⟨its, r, ⟨_, n, e, rfl, rfl, rfl⟩, z⟩
  · refine ⟨its.toList, r, ⟨o, n, S.bs _ _ (S.mod.kin p o hk), hc, hd, by simpa using hs⟩, ?_⟩
    have e := r.length
    simp only [Array.length_toList] at e
    omega
end
/-- e is v there, and nothing is changed -/
def PU (X : Cx) (sc : Scope) (H : Hp) (Γ : List (Str × V)) (e : Expr) (v : V) : Prop :=
  ∀ (ce : Env) (B : Around) (t : Shared) (F R : Value → Shared → Prop), Site X sc H Γ ce t → (∀ u t', RelV v u → Keeps t t' → R u t') → wpAny (model X.prog X.w) B (eval e ce) R F t
theorem kt (s : Shared) (k : Nat) : Keeps s { s with toks := k } := ⟨s.heap, k, rfl, fun _ _ e => e⟩
theorem k0 (s : Shared) : Keeps s s := kt s s.toks
theorem Keeps.on {a b c : Shared} (h : Keeps a b) (h' : Keeps b c) : Keeps a c := by
  obtain ⟨x, n, rfl, k⟩ := h
  obtain ⟨y, m, rfl, k'⟩ := h'
  exact ⟨y, m, rfl, fun i o e => k' i o (k i o e)⟩
section
variable {X : Cx} {sc : Scope} {H : Hp} {Γ : List (Str × V)} {a b : Expr} {pos : Pos}
theorem pu_var {y : Str} {v : V} (h : Γ.lookup y = some v) (hd : (y == ("__debug__" : Str)) = false := by decide) (hcd : (y == ("__classdict__" : Str)) = false := by decide) : PU X sc H Γ (.Name y pos) v := by
  intro ce B t F R S q
  obtain ⟨u, r, l⟩ := S.var y v h
  have fk : ce.scope.kind = .function := by rw [S.eqs]; exact S.fn
  rcases l with ⟨hl, m, hn, hm⟩ | ⟨hl, c, hc, ho⟩
  · exact wpAny_Name (wpAny_loadName_local fk (show ce.scope.names.lookup y = some .local by rw [S.eqs]; exact hl) hn hm (q u t r (k0 t))) hd
  · exact wpAny_Name (wpAny_loadName_free fk (show ce.scope.names.lookup y = some .free by rw [S.eqs]; exact hl) hc ho (q u t r (k0 t)) hcd) hd
theorem pu_int {i : Int} {j : Nat} : PU X sc H Γ (.Constant (.int i) j pos) (.int i) := fun ce B t F R S q => wpAny_Constant_int (q _ _ ⟨_, rfl⟩ (kt t _))
/-- two ints are compared -/
theorem pu_cmp {op : CmpOp} {g : Int → Int → Bool} {i j : Int} (rule : ∀ (B : Around) (i j : Int) (t u : Tok) (s : Shared) (Q : Value → Shared → Prop) (E : Value → Shared → Prop), Q (.bool (g i j)) s → wpAny (model X.prog X.w) B (compareOp op (.int i t) (.int j u)) Q E s)
    (ha : PU X sc H Γ a (.int i)) (hb : PU X sc H Γ b (.int j)) (hm : behindInMarks op b = false := by rfl) : PU X sc H Γ (.Compare a [op] [b] pos) (.bl (g i j)) := by
  intro ce B t F R S q
  refine wpAny_Compare1 (ha ce B t F _ S fun u t1 r1 k1 => hb ce B t1 F _ (S.keeps k1) fun w t2 r2 k2 => ?_) hm
  obtain ⟨_, rfl⟩ := r1
  obtain ⟨_, rfl⟩ := r2
  exact rule _ _ _ _ _ _ _ _ (q _ _ rfl (Keeps.on k1 k2))
theorem pu_lt {i j : Int} (ha : PU X sc H Γ a (.int i)) (hb : PU X sc H Γ b (.int j)) : PU X sc H Γ (.Compare a [.Lt] [b] pos) (.bl (decide (i < j))) := pu_cmp (g := fun i j => decide (i < j)) (fun _ _ _ _ _ _ _ _ q => lt_int q) ha hb (nomark _)
theorem pu_eqI {i j : Int} (ha : PU X sc H Γ a (.int i)) (hb : PU X sc H Γ b (.int j)) : PU X sc H Γ (.Compare a [.Eq] [b] pos) (.bl (decide (i = j))) := by
  intro ce B t F R S q
  refine wpAny_Compare1 (ha ce B t F _ S fun u t1 r1 k1 => hb ce B t1 F _ (S.keeps k1) fun w t2 r2 k2 => ?_) (nomark _)
  obtain ⟨_, rfl⟩ := r1
  obtain ⟨_, rfl⟩ := r2
  exact eq_int (q _ _ (by show _ = _; congr 1) (Keeps.on k1 k2))
theorem pu_sub {i j : Int} (ha : PU X sc H Γ a (.int i)) (hb : PU X sc H Γ b (.int j)) : PU X sc H Γ (.BinOp a .Sub b pos) (.int (i - j)) := by
  intro ce B t F R S q
  refine wpAny_BinOp (ha ce B t F _ S fun u t1 r1 k1 => hb ce B t1 F _ (S.keeps k1) fun w t2 r2 k2 => ?_)
  obtain ⟨_, rfl⟩ := r1
  obtain ⟨_, rfl⟩ := r2
  exact sub_int (q _ _ ⟨_, rfl⟩ (Keeps.on (Keeps.on k1 k2) (kt t2 _)))
theorem pu_non {j : Nat} : PU X sc H Γ (.Constant .none j pos) .non := fun ce B t F R S q => Constant_none (q _ _ rfl (k0 t))
/-- a is not None -/
theorem pu_notN {v : V} {j : Nat} {p : Pos} (ha : PU X sc H Γ a v) : PU X sc H Γ (.Compare a [.IsNot] [.Constant .none j p] pos) (.bl (!decide (v = .non))) := by
  intro ce B t F R S q
  refine wpAny_Compare1 (ha ce B t F _ S fun u t1 r1 k1 => Constant_none (isnot_none_gen (q _ _ ?_ k1))) rfl
  cases v <;> first
    | (cases r1; rfl)
    | (obtain ⟨t, rfl⟩ := r1; rfl)
theorem pu_one {op : BoolOp} {v : V} (ha : PU X sc H Γ a v) : PU X sc H Γ (.BoolOp op [a] pos) v := fun ce B t F R S q => BoolOp_one (ha ce B t F R S q)
theorem pu_and {rest : List Expr} {c r : Bool} (ha : PU X sc H Γ a (.bl c)) (hb : c = true → PU X sc H Γ (.BoolOp .And (b :: rest) pos) (.bl r)) : PU X sc H Γ (.BoolOp .And (a :: b :: rest) pos) (.bl (c && r)) := by
  intro ce B t F R S q
  refine BoolOp_and (ha ce B t F _ S fun u t1 r1 k1 => ?_)
  cases r1
  refine wpAny_truthy_bool ?_
  cases c with
  | true => exact hb rfl ce B t1 F R (S.keeps k1) fun u t2 r2 k2 => q u t2 r2 (Keeps.on k1 k2)
  | false => exact q _ _ rfl k1
/-- an item of a list, by a place from 0 on -/
theorem pu_ix {p : Addr} {xs : List V} {i : Nat} {v : V} (ha : PU X sc H Γ a (.ref p)) (hb : PU X sc H Γ b (.int (i : Int))) (hl : SqL X.K H p xs) (hi : xs[i]? = some v) (hs : PlainIx b := by exact fun _ _ => rfl) : PU X sc H Γ (.Subscript a b pos) v := by
  intro ce B t F R S q
  refine Subscript_ (ha ce B t F _ S fun u t1 r1 k1 => hb ce B t1 F _ (S.keeps k1) fun w t2 r2 k2 => ?_)
  cases r1
  obtain ⟨_, rfl⟩ := r2
  have S2 := (S.keeps k1).keeps k2
  obtain ⟨its, r, pl, hz⟩ := S2.list hl
  obtain ⟨x, ex, rx⟩ := r.get hi
  have hn := line63
  have hlt : i < xs.length := (List.getElem?_eq_some_iff.mp hi).1
  exact item_listR pl.isList (by omega) (by omega) (by simpa using ex) (q _ _ rx (Keeps.on k1 k2)) (hs _ _)
/-- len of a list -/
theorem pu_len {p : Addr} {xs : List V} {np : Pos} (ha : PU X sc H Γ a (.ref p)) (hl : SqL X.K H p xs) (hg : sc.names.lookup ("len" : Str) = some .globalImplicit) (hm : X.mg "len" = none)
    (he : ∀ ce : Env, starEach [a] ce = (false, eval a ce) :: starEach [] ce := by exact fun _ => rfl) : PU X sc H Γ (.Call (.Name "len" np) [a] [] pos) (.int xs.length) := by
  intro ce B t F R S q
  obtain ⟨mb, h1, h2⟩ := S.mod.blt
  refine wpAny_Call_Name_kw (Calls.Name_function_global (by rw [S.eqs]; exact S.fn) (show ce.scope.names.lookup ("len" : Str) = some .globalImplicit by rw [S.eqs]; exact hg)
    (Calls.loadGlobal_builtin (by rw [S.gl]; exact S.mod.glob.keeps S.bs) hm (by rw [S.bl]; exact h1.keeps S.bs) ((h2 "len" (by decide)).trans boot_len) ?_) (by decide))
  refine PyProof.Rows.callWith_builtin1 ?_ (he ce) rfl
  rw [he ce]
  refine Calls.spliced_cons (ha ce B t F _ S fun u t1 r1 k1 => Calls.spliced_nil ?_)
  cases r1
  obtain ⟨its, r, pl, hz⟩ := (S.keeps k1).list hl
  have hn := line63
  have e := r.length
  exact Calls.call_len_list pl.isList (by simp only [List.size_toArray] <;> omega) (q _ _ ⟨_, by rw [List.size_toArray, e]⟩ (Keeps.on k1 (kt t1 _)))
end
end LE
-- GA
/-! any and all of a generator expression over a list, its element reckoned by GL -/
namespace LE
open PySem PySem.Spec PyProof.Rows L2
open GxR (TabB TabG Tabbed GenS)
theorem pair_of_lookup {α : Type} : ∀ {l : List (Str × α)} {y : Str} {v : α}, l.lookup y = some v → (y, v) ∈ l
  | (k, w) :: r, y, v, h => by
    rw [List.lookup_cons] at h
    cases e : y == k with
    | true =>
      rw [e] at h
      have e2 : y = k := by simpa using e
      cases h
      rw [e2]
      exact List.mem_cons_self
    | false =>
      rw [e] at h
      exact List.mem_cons_of_mem _ (pair_of_lookup h)
/-- what is asked of the expression's scope, to be seen by looking -/
structure GOK (ds sc : Scope) (x : Str) : Prop where
  kind : sc.kind = .function
  co : sc.isCoroutine = false
  cell : ∀ y ∈ sc.names, y.2 ≠ .cell
  dot : sc.names.lookup (".0" : Str) = some NameKind.local
  loc : sc.names.lookup x = some .local
  kin : ∀ y ∈ sc.names, y.2 = .free → ds.names.lookup y.1 = some .cell ∨ ds.names.lookup y.1 = some .free
instance {ds sc : Scope} {x : Str} : Decidable (GOK ds sc x) :=
  decidable_of_iff (sc.kind = .function ∧ sc.isCoroutine = false ∧ (∀ y ∈ sc.names, y.2 ≠ .cell) ∧ sc.names.lookup (".0" : Str) = some NameKind.local ∧ sc.names.lookup x = some .local ∧ ∀ y ∈ sc.names, y.2 = .free → ds.names.lookup y.1 = some .cell ∨ ds.names.lookup y.1 = some .free)
    ⟨fun ⟨a, b, c, d, e, f⟩ => ⟨a, b, c, d, e, f⟩, fun ⟨a, b, c, d, e, f⟩ => ⟨a, b, c, d, e, f⟩⟩
def Gsc (X : Cx) (sc : Scope) (x : Str) : Prop := ∃ ds, X.env.scope = ds ∧ GOK ds sc x
theorem Gsc.gens {X : Cx} {sc : Scope} {x : Str} (g : Gsc X sc x) (ok : X.Ok) : GenS X.env sc x := by
  obtain ⟨ds, rfl, h⟩ := g
  exact ⟨h.kind, h.co, h.cell, h.dot, h.loc, fun y hy e => ok.has _ (h.kin y hy e)⟩
/-- the names of the def that the element sees, and what they hold -/
def Seen (X : Cx) (σ : L2.St) (sc : Scope) (Γ : List (Str × V)) : Prop :=
  ∀ y v, Γ.lookup y = some v → ∃ i : Nat, X.N[i]? = some y ∧ σ[i]? = some (some v) ∧ (X.env.scope.names.lookup y = some .cell ∨ X.env.scope.names.lookup y = some .free) ∧ sc.names.lookup y = some .free
theorem seen_nil {X : Cx} {σ : L2.St} {sc : Scope} : Seen X σ sc [] := fun _ _ h => nomatch h
theorem seen_cons {X : Cx} {σ : L2.St} {sc : Scope} {Γ : List (Str × V)} {y : Str} {v : V} (i : Nat) (hN : X.N[i]? = some y) (hσ : σ[i]? = some (some v)) (hk : X.env.scope.names.lookup y = some .cell ∨ X.env.scope.names.lookup y = some .free) (hf : sc.names.lookup y = some .free)
    (r : Seen X σ sc Γ) : Seen X σ sc ((y, v) :: Γ) := fun z w h => by
  rw [List.lookup_cons] at h
  cases e : z == y with
  | true =>
    rw [e] at h
    cases h
    rw [show z = y by simpa using e]
    exact ⟨i, hN, hσ, hk, hf⟩
  | false =>
    rw [e] at h
    exact r z w h
/-- a generator that is ready, of n turns, the j-th one true as tr says -/
def Rdy (X : Cx) (pins : List (Addr × Obj)) (σ : L2.St) (H1 : Hp) (P : Addr) (n : Nat) (tr : Nat → Bool) (g : Addr) (s5 : Shared) : Prop :=
  ∃ (fp wr : List Addr) (G : Array GenState → Array GenState → Prop) (F : Nat → Value → Prop) (St : Nat → Shared → Prop),
    WalksS X.prog X.w X.A.in1 g fp wr G n F St ∧ St 0 s5 ∧ TruthOf X.prog X.w X.A.in1 F tr ∧ ∀ s', Moved wr G s5 s' → ∃ H2, Tabbed P H1 H2 ∧ Inv X pins σ H2 s'
section
variable {X : Cx} {pins : List (Addr × Obj)} {σ : L2.St} {H : Hp} {s : Shared}
/-- the expression's code object: found, or made and put behind the table -/
theorem code_step {c P : Addr} {pos : Pos} {q : Str} {sc : Scope} {ps : Array Value} {R : Value → Shared → Prop} {E : Value → Shared → Prop} {A : Around} {M : Model} {t : Shared} (hcode : X.env.code = .ref c) (cd : PySem.W.CodeHd t.heap c P)
    (hP : t.heap.get? P = some { cls := .none, data := .fields ps }) (ht : TriplesOk ps.toList)
    (go : ∀ (code : Value) (h3 : Heap) (tk : Nat) (more : Array Value), Heap.ExtBut P t.heap h3 → t.heap.objs.size ≤ h3.objs.size → h3.get? P = some { cls := .none, data := .fields (ps ++ more) } → TriplesOk (ps ++ more).toList → R code { t with heap := h3, toks := tk }) :
    wpAny M A (genexprCode X.env pos q sc) R E t := by
  cases e : codeAmong pos ps.toList with
  | some v =>
    refine PySem.wpAny_genexprCode_hit hcode (cd.code hP ht) e ?_
    have z := go v t.heap t.toks #[] (Heap.ExtBut.refl _ _) (Nat.le_refl _) (by rw [Array.append_empty]; exact hP) (by rw [Array.append_empty]; exact ht)
    exact z
  | none =>
    refine PySem.wpAny_genexprCodeX hcode (cd.code hP ht) (cd.tab hP) e fun d h3 tk x ge lt ic _ it _ => go _ h3 tk _ x (Nat.le_trans ge (Nat.le_of_lt lt)) it.2 ?_
    obtain ⟨_, _, _, _, _, _, _, _, _, _, _, _, _, _, _, _, _, _, _, tr, _⟩ := ic
    exact tr
/-- .. for x in a list -/
theorem gen_list {c P : Addr} {elt iter : Expr} {x : Str} {px gpos : Pos} {sc : Scope} {te : TE} {k : Nat} {Q' : Value → Shared → Prop} {R : Nat → (Nat → Bool) → Hp → Prop}
    (hr : Room k X.A) (TB : TabB X.base X.mg c P) (hcode : X.env.code = .ref c) (S : GenS X.env sc x) (hi : PE X iter te) (hs : ∀ v, genFold iter X.env v = pure v) (I : Inv X pins σ H s)
    (h : te σ H fun v H1 => ∃ (a : Addr) (xs : List V) (tr : Nat → Bool) (Γ : List (Str × V)), v = .ref a ∧ SqL X.K H1 a xs ∧ TabG H1 P ∧ Seen X σ sc Γ ∧ (∀ j w, xs[j]? = some w → PU X sc H1 ((x, w) :: Γ) elt (.bl (tr j))) ∧ R xs.length tr H1)
    (hQ : ∀ n tr H1 g s5, R n tr H1 → Rdy X pins σ H1 P n tr g s5 → Q' (.ref g) s5) :
    wpAny (model X.prog X.w) X.A (eval (.GeneratorExp elt [⟨.Name x px, iter, [], 0⟩] sc gpos) X.env) Q' X.xe s := by
  refine wpAny_GeneratorExp_walksQ hr.hd S.co (closure_ok S.free) S.cell S.dot S.loc S.kind (by have := hr.dp; omega) ?_ hs
  refine thn (hi.run pins s σ H _ I h) fun u s1 ⟨v, H1, I1, r1, a, xs, tr, Γ, ev, hl, ⟨ps, hP, ht⟩, sn, hel, hR⟩ => ?_
  subst ev
  cases (show u = Value.ref a from r1)
  obtain ⟨its, rv, pl, hz⟩ := I1.list hl
  have nlen := rv.length
  refine wpAny_pyIter_list pl.isList ?_
  -- the iterator stands behind all else
  have kp : ∀ b o, s1.heap.get? b = some o → (s1.heap.push { cls := .type "list_iterator", data := .fields #[.ref a, .int 0 0] }).get? b = some o := fun b o e => Heap.get?_push_of_some _ e
  have oP : s1.heap.get? P = some { cls := .none, data := .fields ps } := I1.hok P _ hP
  have nl2 : (s1.heap.push { cls := .type "list_iterator", data := .fields #[.ref a, .int 0 0] }).NoLimit := I1.nolimit.push _
  have hsz2 : (s1.heap.push { cls := .type "list_iterator", data := .fields #[.ref a, .int 0 0] }).objs.size = s1.heap.objs.size + 1 := Heap.size_push ..
  have itA : (s1.heap.push { cls := .type "list_iterator", data := .fields #[.ref a, .int 0 0] }).IsListIter s1.heap.objs.size a 0 := ⟨_, Heap.get?_push_size _ rfl, rfl, rfl⟩
  have hal : a < s1.heap.objs.size := by
    obtain ⟨o, e, _⟩ := pl.isList
    exact Heap.lt_size e
  refine ⟨nl2, code_step (ps := ps) hcode (TB.code.keeps fun b o e => kp b o (I1.bk b o e)) (kp _ _ oP) ht fun code h3 tk more ex ge hP3 ht3 => ?_⟩
  have ge : s1.heap.objs.size + 1 ≤ h3.objs.size := by
    rw [← hsz2]
    exact ge
  obtain ⟨bm, ob, e1, e2, e3, e4, e5, e6, e7, e8⟩ := TB.bm
  have k3 : ∀ b o, b ≠ P → s1.heap.get? b = some o → h3.get? b = some o := fun b o n e => ex b o n (kp b o e)
  refine wpAny_builtinsFor (m := X.mg) (by rw [I1.ok.glob]; exact ((I1.mod.glob.keeps I1.bk).keeps kp).extBut ex TB.gP) e1 e2 (k3 _ _ e4 (I1.bk _ _ e5)) e6 e7 e8 ?_
  have aP : a ≠ P := fun z => by
    obtain ⟨o, e, d, n, e'⟩ := pl.isList
    rw [z, oP] at e
    cases e
    cases e'
  have iP : s1.heap.objs.size ≠ P := fun z => by
    have := Heap.lt_size oP
    rw [← z] at this
    exact Nat.lt_irrefl _ this
  have cP : cStatics ≠ P := fun z => by
    obtain ⟨_, ⟨o, es, ep, ho, hd, _⟩, _⟩ := I1.nolimit
    rw [z, oP] at ho
    cases ho
    cases hd
  have cl : cStatics < s1.heap.objs.size := let ⟨_, q, _⟩ := I1.nolimit; q.lt
  refine ⟨s1.heap.objs.size, [s1.heap.objs.size, a], [s1.heap.objs.size], its.toArray.size, fun i v => its.toArray[i]? = some v, fun i h => h.IsListIter s1.heap.objs.size a i ∧ h.IsList a its.toArray, fun _ => true, fun i y => y = .bool (tr i), rfl,
    fun A' hA => Walks.list hA _ _ (Nat.ne_of_lt hal) _, ⟨itA.at fun o e => ex _ o iP e, ?_⟩, fun b hb => ?_, nl2.extBut ex cP, fun z => ?_, fun href hk => ⟨fun A' E' i v t m _ _ _ _ _ => ?_, fun A' E' i v t m hA hv _ hn hm kk => ?_⟩, fun g h5 tk5 gs bare lt5 sz5 k5 W at5 => ?_⟩
  · obtain ⟨o, e, r⟩ := pl.isList
    exact ⟨o, k3 a o aP e, r⟩
  · show b < h3.objs.size
    rcases List.mem_cons.mp hb with z | z
    · rw [z]
      exact Nat.lt_of_lt_of_le (Nat.lt_succ_self _) ge
    · rw [List.mem_singleton.mp z]
      exact Nat.lt_of_lt_of_le (Nat.lt_succ_of_lt hal) ge
  · have z2 := List.mem_singleton.mp z
    rw [z2] at cl
    exact Nat.lt_irrefl _ cl
  · rw [List.forIn_nil]
    exact wpAny_pure ⟨rfl, k0 t⟩
  · -- one element
    have up : ∀ b o, b ≠ P → s1.heap.get? b = some o → t.heap.get? b = some o := fun b o n e => by
      have lb := Heap.lt_size e
      refine kk b (List.mem_range.mpr (show b < h3.objs.size from Nat.lt_of_lt_of_le (Nat.lt_succ_of_lt lb) ge)) (fun y => ?_) o (hk b o (k3 b o n e))
      rw [List.mem_singleton.mp y] at lb
      exact Nat.lt_irrefl _ lb
    have hv' : its[i]? = some v := by simpa using hv
    obtain ⟨w, ew, rw'⟩ : ∃ w, xs[i]? = some w ∧ RelV w v := by
      have lt : i < xs.length := by
        rw [nlen]
        exact (List.getElem?_eq_some_iff.mp hv').1
      obtain ⟨y, ey, ry⟩ := rv.get (List.getElem?_eq_getElem lt)
      rw [hv'] at ey
      cases ey
      exact ⟨_, List.getElem?_eq_getElem lt, ry⟩
    refine hel i w ew _ A' t E' _ ?_ fun u t' ru ku => ⟨ru, ku⟩
    refine ⟨S.kind, rfl, I1.ok.glob, rfl, I1.mod, fun b o e => up b o (fun z => ?_) (I1.bk b o e), fun b o e n => (I1.hok b o e).stay (fun d y hd ey => up d y (fun z => ?_) ey) (fun _ y => y) fun _ _ y => y, fun y v' e => ?_⟩
    · have := (I1.bs b o e).2
      rw [z, hP] at this
      cases this
    · rcases hd with q | q
      · rw [← q, z, hP] at e
        exact n ps (Option.some.inj e).symm
      · rw [z, hP] at q
        cases q
    · rw [List.lookup_cons] at e
      cases b : y == x with
      | true =>
        rw [b] at e
        have e' : y = x := by simpa using b
        cases e
        exact ⟨v, rw', .inl ⟨by rw [e']; exact S.loc, m, hn, by rw [e']; exact hm⟩⟩
      | false =>
        rw [b] at e
        obtain ⟨j, hN, hσ, hv2, hf⟩ := sn y v' e
        obtain ⟨m1, _, hl1⟩ := I1.loc
        obtain ⟨u, ru, lk⟩ := hl1 j y v' hN hσ (.inr hv2)
        rcases lk with ⟨q1, _⟩ | ⟨_, cc, hc, hcell⟩
        · have q1' : X.env.scope.names.lookup y = some .local := q1
          rcases hv2 with q2 | q2 <;> (rw [q1'] at q2; cases q2)
        · obtain ⟨oc, ec, dc⟩ := hcell
          refine ⟨u, ru, .inr ⟨hf, cc, NdefX.clo_has S.free (pair_of_lookup hf) hc, oc, up cc oc (fun z => ?_) ec, dc⟩⟩
          rw [z, oP] at ec
          cases ec
          cases dc
  · -- behind its making
    simp only [GxR.passing_true, List.length_range] at W
    have en : its.toArray.size = xs.length := by rw [List.size_toArray, nlen]
    refine hQ its.toArray.size tr H1 g _ (by rw [en]; exact hR) ⟨_, _, _, _, _, W.in4_1, at5, fun j y sj Qj Ej hy hq => ?_, fun s' mv => ?_⟩
    · obtain ⟨i, hij, rfl⟩ := hy
      obtain ⟨_, ej⟩ := List.getElem?_eq_some_iff.mp hij
      rw [List.getElem_range] at ej
      rw [← ej]
      exact wpAny_truthy_bool hq
    · have out : ∀ b o, s1.heap.get? b = some o → b ∉ h3.objs.size :: [s1.heap.objs.size] := fun b o e y => by
        have lb := Heap.lt_size e
        rcases List.mem_cons.mp y with z | z
        · rw [z] at lb
          have : (h3.objs.size : Nat) < s1.heap.objs.size := lb
          omega
        · rw [List.mem_singleton.mp z] at lb
          exact Nat.lt_irrefl _ lb
      have J := GxR.inv_tab (more := more) (h' := s'.heap) (g' := s'.gens) (d' := s'.drawn) (t' := s'.toks) I1 hP (fun b o n e => mv.heap b o (out b o e) (k5 b o (k3 b o n e))) (mv.heap P _ (out P _ oP) (k5 P _ hP3)) (AllBare.movedS (I1.bare.push bare) mv)
      rw [GxR.sh_eta s1 s' mv.os] at J
      exact ⟨_, ⟨⟨_, upd_same, ht3⟩, fun b n => upd_ne n⟩, J⟩
/-- any(test for x in a list), all(..) -/
def tGenL (X : Cx) (P : Addr) (x : Str) (sc : Scope) (elt : Expr) (fold : Nat → (Nat → Bool) → Bool) (te : TE) : TE := fun σ H Q => te σ H fun v H1 => ∃ (a : Addr) (xs : List V) (tr : Nat → Bool) (Γ : List (Str × V)), v = .ref a ∧ SqL X.K H1 a xs ∧ TabG H1 P ∧
  Seen X σ sc Γ ∧ (∀ j w, xs[j]? = some w → PU X sc H1 ((x, w) :: Γ) elt (.bl (tr j))) ∧ ∀ H2, Tabbed P H1 H2 → Q (.bl (fold xs.length tr)) H2
def anyTo (n : Nat) (tr : Nat → Bool) : Bool := (List.range n).any tr
def allTo (n : Nat) (tr : Nat → Bool) : Bool := (List.range n).all tr
section
variable {c P : Addr} {elt iter : Expr} {x : Str} {px p pos gpos : Pos} {sc : Scope} {te : TE} {k : Nat}
theorem pe_anyL (hr : Room k X.A) (hg : Gl X "any") (hm : X.mg "any" = none) (TB : TabB X.base X.mg c P) (hcode : X.env.code = .ref c) (S : Gsc X sc x) (hi : PE X iter te) (hs : ∀ v, genFold iter X.env v = pure v)
    (he : starEach [.GeneratorExp elt [⟨.Name x px, iter, [], 0⟩] sc gpos] X.env = (false, eval (.GeneratorExp elt [⟨.Name x px, iter, [], 0⟩] sc gpos) X.env) :: starEach [] X.env := by rfl) :
    PE X (.Call (.Name "any" p) [.GeneratorExp elt [⟨.Name x px, iter, [], 0⟩] sc gpos] [] pos) (tGenL X P x sc elt anyTo te) := by
  refine ⟨fun pins s σ H Q I h => wpAny_Call_Name_kw (ld_blt I hg hm boot_any (PyProof.Rows.callWith_builtin1 ?_ he (by rfl)))⟩
  rw [he]
  refine Calls.spliced_cons (gen_list (R := fun n tr H1 => ∀ H2, Tabbed P H1 H2 → Q (.bl (anyTo n tr)) H2) hr TB hcode (S.gens I.ok) hi hs I h fun n tr H1 g s5 hR ⟨fp, wr, G, F, sq, W, h0, tt, aft⟩ => Calls.spliced_nil ?_)
  refine call_any_walkS (W.self 0 _ _ _ h0 ⟨g, fp, wr, G, _, F, sq, _, rfl, W, h0, tt, fun s' mv => ?_⟩)
  obtain ⟨H2, T, J⟩ := aft s' mv
  exact ⟨.bl _, H2, J, rfl, hR H2 T⟩
theorem pe_allL (hr : Room k X.A) (hg : Gl X "all") (hm : X.mg "all" = none) (TB : TabB X.base X.mg c P) (hcode : X.env.code = .ref c) (S : Gsc X sc x) (hi : PE X iter te) (hs : ∀ v, genFold iter X.env v = pure v)
    (he : starEach [.GeneratorExp elt [⟨.Name x px, iter, [], 0⟩] sc gpos] X.env = (false, eval (.GeneratorExp elt [⟨.Name x px, iter, [], 0⟩] sc gpos) X.env) :: starEach [] X.env := by rfl) :
    PE X (.Call (.Name "all" p) [.GeneratorExp elt [⟨.Name x px, iter, [], 0⟩] sc gpos] [] pos) (tGenL X P x sc elt allTo te) := by
  refine ⟨fun pins s σ H Q I h => wpAny_Call_Name_kw (ld_blt I hg hm (by decide +kernel : bootBuiltins "all" = some (.builtin "all")) (PyProof.Rows.callWith_builtin1 ?_ he (by rfl)))⟩
  rw [he]
  refine Calls.spliced_cons (gen_list (R := fun n tr H1 => ∀ H2, Tabbed P H1 H2 → Q (.bl (allTo n tr)) H2) hr TB hcode (S.gens I.ok) hi hs I h fun n tr H1 g s5 hR ⟨fp, wr, G, F, sq, W, h0, tt, aft⟩ => Calls.spliced_nil ?_)
  refine call_all_walkS (W.self 0 _ _ _ h0 ⟨g, fp, wr, G, _, F, sq, _, rfl, W, h0, tt, fun s' mv => ?_⟩)
  obtain ⟨H2, T, J⟩ := aft s' mv
  exact ⟨.bl _, H2, J, rfl, hR H2 T⟩
end
end
end LE
-- GB
/-! any and all of a generator expression over enumerate(a list) -/
namespace LE
open PySem PySem.Spec PyProof.Rows L2
open GxR (TabB TabG Tabbed GenS)
section
variable {X : Cx} {pins : List (Addr × Obj)} {σ : L2.St} {H : Hp} {s : Shared}
/-- what the element sees, from what stands where the generator is made -/
theorem site_of {P : Addr} {ps : Array Value} {sc : Scope} {x : Str} {Γ L : List (Str × V)} {ce : Env} {s1 t : Shared} {H1 : Hp} {m : Str → Option Value} (S : GenS X.env sc x) (I1 : Inv X pins σ H1 s1) (hP : H1 P = some (.tbl ps)) (sn : Seen X σ sc Γ)
    (up : ∀ b o, b ≠ P → s1.heap.get? b = some o → t.heap.get? b = some o) (es : ce.scope = sc) (eg : ce.globals = mainGlobals) (eb : ce.builtins = builtinsNs) (ec : ce.cells = cloFrom X.env.cells sc.names [])
    (hn : t.heap.Ns ce.locals m) (loc : ∀ y v, L.lookup y = some v → sc.names.lookup y = some .local ∧ ∃ u, RelV v u ∧ m y = some u) : Site X sc H1 (L ++ Γ) ce t := by
  have oP : s1.heap.get? P = some { cls := .none, data := .fields ps } := I1.hok P _ hP
  refine ⟨S.kind, es, eg, eb, I1.mod, fun b o e => up b o (fun z => ?_) (I1.bk b o e), fun b o e n => (I1.hok b o e).stay (fun d y hd ey => up d y (fun z => ?_) ey) (fun _ y => y) fun _ _ y => y, fun y v e => ?_⟩
  · have := (I1.bs b o e).2
    rw [z, hP] at this
    cases this
  · rcases hd with q | q
    · rw [← q, z, hP] at e
      exact n ps (Option.some.inj e).symm
    · rw [z, hP] at q
      cases q
  · have split : ∀ L : List (Str × V), (L ++ Γ).lookup y = some v → L.lookup y = some v ∨ Γ.lookup y = some v := fun L => by
      induction L with
      | nil => exact fun z => .inr z
      | cons p r ih =>
        intro z
        rw [List.cons_append, List.lookup_cons] at z
        rw [List.lookup_cons]
        cases q : y == p.1 with
        | true =>
          rw [q] at z
          exact .inl z
        | false =>
          rw [q] at z
          exact ih z
    rcases split L e with e | e
    · obtain ⟨hl, u, ru, hm⟩ := loc y v e
      exact ⟨u, ru, .inl ⟨hl, m, hn, hm⟩⟩
    · obtain ⟨j, hN, hσ, hv2, hf⟩ := sn y v e
      obtain ⟨m1, _, hl1⟩ := I1.loc
      obtain ⟨u, ru, lk⟩ := hl1 j y v hN hσ (.inr hv2)
      rcases lk with ⟨q1, _⟩ | ⟨_, cc, hc, hcell⟩
      · have q1' : X.env.scope.names.lookup y = some .local := q1
        rcases hv2 with q2 | q2 <;> (rw [q1'] at q2; cases q2)
      · obtain ⟨oc, e1, dc⟩ := hcell
        refine ⟨u, ru, .inr ⟨hf, cc, by rw [ec]; exact NdefX.clo_has S.free (pair_of_lookup hf) hc, oc, up cc oc (fun z => ?_) e1, dc⟩⟩
        rw [z, oP] at e1
        cases e1
        cases dc
theorem gen_enum {c P : Addr} {elt e : Expr} {xa xb : Str} {pa pb pt ep np gpos : Pos} {kt : Nat} {sc : Scope} {ta : TA} {k : Nat} {Q' : Value → Shared → Prop} {R : Nat → (Nat → Bool) → Hp → Prop}
    (hr : Room k X.A) (TB : TabB X.base X.mg c P) (hcode : X.env.code = .ref c) (S : GenS X.env sc xa) (hb : sc.names.lookup xb = some .local) (hab : xa ≠ xb) (hg : Gl X "enumerate") (hm : X.mg "enumerate" = none) (hi : PA X [e] ta)
    (hst : starEach [e] X.env = [(false, eval e X.env)]) (hs : ∀ v, genFold (.Call (.Name "enumerate" np) [e] [] ep) X.env v = pure v) (I : Inv X pins σ H s)
    (h : ta σ H fun vs H1 => ∃ (a : Addr) (xs : List V) (tr : Nat → Bool) (Γ : List (Str × V)), vs = [.ref a] ∧ SqL X.K H1 a xs ∧ TabG H1 P ∧ Seen X σ sc Γ ∧ (∀ j w, xs[j]? = some w → PU X sc H1 ([(xb, w), (xa, .int (j : Int))] ++ Γ) elt (.bl (tr j))) ∧ R xs.length tr H1)
    (hQ : ∀ n tr H1 g s5, R n tr H1 → Rdy X pins σ H1 P n tr g s5 → Q' (.ref g) s5) :
    wpAny (model X.prog X.w) X.A (eval (.GeneratorExp elt [⟨.Tuple [.Name xa pa, .Name xb pb] kt pt, .Call (.Name "enumerate" np) [e] [] ep, [], 0⟩] sc gpos) X.env) Q' X.xe s := by
  refine wpAny_GeneratorExp_walksQT hr.hd S.co (closure_ok S.free) S.cell S.dot S.loc hb hab S.kind (by have := hr.dp; omega) ?_ hs
  refine Call_ (ld_blt I hg hm boot_enumerate (PyProof.Rows.callWith_type1 (thn (hi.run ep pins s σ H _ I h) fun us s1 ⟨vs, H1, I1, r1, a, xs, tr, Γ, ev, hl, ⟨ps, hP, ht⟩, sn, hel, hR⟩ => ?_) hst rfl))
  subst ev
  obtain ⟨u, rfl, r2⟩ := vals1 r1
  cases (show u = Value.ref a from r2)
  obtain ⟨its, rv, pl, hz⟩ := I1.list hl
  have nlen := rv.length
  have oP : s1.heap.get? P = some { cls := .none, data := .fields ps } := I1.hok P _ hP
  have hal : a < s1.heap.objs.size := by
    obtain ⟨o, q, _⟩ := pl.isList
    exact Heap.lt_size q
  refine call_enumerate_list pl.isList fun h2 en2 it2 sz2 kp => wpAny_pyIter_enum en2 ?_
  have nl2 : h2.NoLimit := I1.nolimit.keeps kp
  refine ⟨nl2, code_step (ps := ps) hcode (TB.code.keeps fun b o q => kp b o (I1.bk b o q)) (kp _ _ oP) ht fun code h3 tk more ex ge hP3 ht3 => ?_⟩
  have ge : s1.heap.objs.size + 2 ≤ h3.objs.size := by
    rw [← sz2]
    exact ge
  obtain ⟨bm, ob, e1, e2, e3, e4, e5, e6, e7, e8⟩ := TB.bm
  have k3 : ∀ b o, b ≠ P → s1.heap.get? b = some o → h3.get? b = some o := fun b o n q => ex b o n (kp b o q)
  refine wpAny_builtinsFor (m := X.mg) (by rw [I1.ok.glob]; exact ((I1.mod.glob.keeps I1.bk).keeps kp).extBut ex TB.gP) e1 e2 (k3 _ _ e4 (I1.bk _ _ e5)) e6 e7 e8 ?_
  have aP : a ≠ P := fun z => by
    obtain ⟨o, q, d, n, q'⟩ := pl.isList
    rw [z, oP] at q
    cases q
    cases q'
  have Plt : P < s1.heap.objs.size := Heap.lt_size oP
  have nP : ∀ b : Addr, s1.heap.objs.size ≤ b → b ≠ P := fun b q z => by
    rw [z] at q
    exact absurd (Nat.lt_of_lt_of_le Plt q) (Nat.lt_irrefl _)
  have cP : cStatics ≠ P := fun z => by
    obtain ⟨_, ⟨o, es, q, ho, hd, _⟩, _⟩ := I1.nolimit
    rw [z, oP] at ho
    cases ho
    cases hd
  have cl : cStatics < s1.heap.objs.size := let ⟨_, q, _⟩ := I1.nolimit; q.lt
  have young : ∀ b, b ∈ [s1.heap.objs.size + 1, s1.heap.objs.size] → s1.heap.objs.size ≤ b := fun b q => by
    rcases List.mem_cons.mp q with z | z
    · rw [z]; exact Nat.le_succ _
    · rw [List.mem_singleton.mp z]; exact Nat.le_refl _
  refine ⟨s1.heap.objs.size + 1, [s1.heap.objs.size + 1, s1.heap.objs.size, a], [s1.heap.objs.size + 1, s1.heap.objs.size], its.toArray.size, fun i vals => ∃ t x, its.toArray[i]? = some x ∧ vals = #[.int i t, x], _, _, fun _ => true, fun i y => y = .bool (tr i), rfl,
    fun A' hA => (WalksT.enumerate hA _ _ _ (Nat.succ_ne_self _) (Nat.ne_of_lt (Nat.lt_succ_of_lt hal)) (Nat.ne_of_lt hal) its.toArray).toU, fun i vals ⟨t, x, _, q⟩ => ⟨_, _, q⟩, ⟨⟨.none, ex _ _ (nP _ (Nat.le_succ _)) en2⟩, it2.at fun o q => ex _ o (nP _ (Nat.le_refl _)) q, ?_⟩, fun b hb2 => ?_, nl2.extBut ex cP, fun z => ?_,
    fun href hk => ⟨fun A' E' i va vb t m _ _ _ _ _ _ => ?_, fun A' E' i va vb t m hA hv _ hn hm1 hm2 kk => ?_⟩, fun g h5 tk5 gs bare lt5 sz5 k5 W at5 => ?_⟩
  · obtain ⟨o, q, r⟩ := pl.isList
    exact ⟨o, k3 a o aP q, r⟩
  · show b < h3.objs.size
    rcases List.mem_cons.mp hb2 with z | z
    · rw [z]
      exact Nat.lt_of_lt_of_le (Nat.lt_succ_self _) ge
    · rcases List.mem_cons.mp z with z | z
      · rw [z]
        exact Nat.lt_of_lt_of_le (Nat.lt_succ_of_lt (Nat.lt_succ_self _)) ge
      · rw [List.mem_singleton.mp z]
        exact Nat.lt_of_lt_of_le (Nat.lt_succ_of_lt (Nat.lt_succ_of_lt hal)) ge
  · exact absurd (Nat.lt_of_lt_of_le cl (young _ z)) (Nat.lt_irrefl _)
  · rw [List.forIn_nil]
    exact wpAny_pure ⟨rfl, k0 t⟩
  · have up : ∀ b o, b ≠ P → s1.heap.get? b = some o → t.heap.get? b = some o := fun b o n q => by
      have lb := Heap.lt_size q
      exact kk b (List.mem_range.mpr (show b < h3.objs.size from Nat.lt_of_lt_of_le (Nat.lt_succ_of_lt (Nat.lt_succ_of_lt lb)) ge)) (fun y => absurd (Nat.lt_of_lt_of_le lb (young _ y)) (Nat.lt_irrefl _)) o (hk b o (k3 b o n q))
    obtain ⟨tk', x, hx, ev⟩ := hv
    have ev' : va = .int i tk' ∧ vb = x := by simpa using ev
    obtain ⟨rfl, rfl⟩ := ev'
    have hv' : its[i]? = some vb := by simpa using hx
    obtain ⟨w, ew, rw'⟩ : ∃ w, xs[i]? = some w ∧ RelV w vb := by
      have lt : i < xs.length := by
        rw [nlen]
        exact (List.getElem?_eq_some_iff.mp hv').1
      obtain ⟨y, ey, ry⟩ := rv.get (List.getElem?_eq_getElem lt)
      rw [hv'] at ey
      cases ey
      exact ⟨_, List.getElem?_eq_getElem lt, ry⟩
    refine hel i w ew _ A' t E' _ (site_of S I1 hP sn up rfl I1.ok.glob rfl rfl hn fun y v q => ?_) fun u t' ru ku => ⟨ru, ku⟩
    rw [List.lookup_cons] at q
    cases b1 : y == xb with
    | true =>
      rw [b1] at q
      cases q
      rw [show y = xb by simpa using b1]
      exact ⟨hb, vb, rw', hm2⟩
    | false =>
      rw [b1, List.lookup_cons] at q
      cases b2 : y == xa with
      | true =>
        rw [b2] at q
        cases q
        rw [show y = xa by simpa using b2]
        exact ⟨S.loc, _, ⟨_, rfl⟩, hm1⟩
      | false =>
        rw [b2] at q
        cases q
  · simp only [GxR.passing_true, List.length_range] at W
    have en : its.toArray.size = xs.length := by rw [List.size_toArray, nlen]
    refine hQ its.toArray.size tr H1 g _ (by rw [en]; exact hR) ⟨_, _, _, _, _, W.in4_1, at5, fun j y sj Qj Ej hy hq => ?_, fun s' mv => ?_⟩
    · obtain ⟨i, hij, rfl⟩ := hy
      obtain ⟨_, ej⟩ := List.getElem?_eq_some_iff.mp hij
      rw [List.getElem_range] at ej
      rw [← ej]
      exact wpAny_truthy_bool hq
    · have out : ∀ b o, s1.heap.get? b = some o → b ∉ h3.objs.size :: [s1.heap.objs.size + 1, s1.heap.objs.size] := fun b o q y => by
        have lb := Heap.lt_size q
        rcases List.mem_cons.mp y with z | z
        · rw [z] at lb
          exact absurd (Nat.lt_of_le_of_lt (Nat.le_trans (Nat.le_succ _) (Nat.le_trans (Nat.le_succ _) ge)) lb) (Nat.lt_irrefl _)
        · exact absurd (Nat.lt_of_lt_of_le lb (young _ z)) (Nat.lt_irrefl _)
      have J := GxR.inv_tab (more := more) (h' := s'.heap) (g' := s'.gens) (d' := s'.drawn) (t' := s'.toks) I1 hP (fun b o n q => mv.heap b o (out b o q) (k5 b o (k3 b o n q))) (mv.heap P _ (out P _ oP) (k5 P _ hP3)) (AllBare.movedS (I1.bare.push bare) mv)
      rw [GxR.sh_eta s1 s' mv.os] at J
      exact ⟨_, ⟨⟨_, upd_same, ht3⟩, fun b n => upd_ne n⟩, J⟩
def tGenE (X : Cx) (P : Addr) (xa xb : Str) (sc : Scope) (elt : Expr) (fold : Nat → (Nat → Bool) → Bool) (ta : TA) : TE := fun σ H Q => ta σ H fun vs H1 => ∃ (a : Addr) (xs : List V) (tr : Nat → Bool) (Γ : List (Str × V)), vs = [.ref a] ∧ SqL X.K H1 a xs ∧ TabG H1 P ∧
  Seen X σ sc Γ ∧ (∀ j w, xs[j]? = some w → PU X sc H1 ([(xb, w), (xa, .int (j : Int))] ++ Γ) elt (.bl (tr j))) ∧ ∀ H2, Tabbed P H1 H2 → Q (.bl (fold xs.length tr)) H2
section
variable {c P : Addr} {elt e : Expr} {xa xb : Str} {pa pb pt ep np p pos gpos : Pos} {kt : Nat} {sc : Scope} {ta : TA} {k : Nat}
theorem pe_anyE (hr : Room k X.A) (hg : Gl X "any") (hm : X.mg "any" = none) (TB : TabB X.base X.mg c P) (hcode : X.env.code = .ref c) (S : Gsc X sc xa) (hb : sc.names.lookup xb = some .local) (hab : xa ≠ xb) (hge : Gl X "enumerate") (hme : X.mg "enumerate" = none)
    (hi : PA X [e] ta) (hst : starEach [e] X.env = [(false, eval e X.env)]) (hs : ∀ v, genFold (.Call (.Name "enumerate" np) [e] [] ep) X.env v = pure v)
    (he : starEach [.GeneratorExp elt [⟨.Tuple [.Name xa pa, .Name xb pb] kt pt, .Call (.Name "enumerate" np) [e] [] ep, [], 0⟩] sc gpos] X.env = (false, eval (.GeneratorExp elt [⟨.Tuple [.Name xa pa, .Name xb pb] kt pt, .Call (.Name "enumerate" np) [e] [] ep, [], 0⟩] sc gpos) X.env) :: starEach [] X.env := by rfl) :
    PE X (.Call (.Name "any" p) [.GeneratorExp elt [⟨.Tuple [.Name xa pa, .Name xb pb] kt pt, .Call (.Name "enumerate" np) [e] [] ep, [], 0⟩] sc gpos] [] pos) (tGenE X P xa xb sc elt anyTo ta) := by
  refine ⟨fun pins s σ H Q I h => wpAny_Call_Name_kw (ld_blt I hg hm boot_any (PyProof.Rows.callWith_builtin1 ?_ he (by rfl)))⟩
  rw [he]
  refine Calls.spliced_cons (gen_enum (R := fun n tr H1 => ∀ H2, Tabbed P H1 H2 → Q (.bl (anyTo n tr)) H2) hr TB hcode (S.gens I.ok) hb hab hge hme hi hst hs I h fun n tr H1 g s5 hR ⟨fp, wr, G, F, sq, W, h0, tt, aft⟩ => Calls.spliced_nil ?_)
  refine call_any_walkS (W.self 0 _ _ _ h0 ⟨g, fp, wr, G, _, F, sq, _, rfl, W, h0, tt, fun s' mv => ?_⟩)
  obtain ⟨H2, T, J⟩ := aft s' mv
  exact ⟨.bl _, H2, J, rfl, hR H2 T⟩
end
end
end LE
-- GT
/-! the law's own call under known guards, with the tables of the code objects that hold generator expressions -/
namespace LG
open PySem PySem.Spec PyProof.Rows L2
open GxR (TabB)
section
variable {P : Program} {w : World} {K : PySem.W.Frag} {mg mb : Str → Option Value} {k : Nat} {fa a : Addr} {fd : FuncData} {x : Str} {sp : Sp} {s₁ : Shared} {vs : List Value} {ns : List Int} {cs : List (Addr × Addr)}
/-- the abstract heap at the start: the script (if it is no written thing), the tables, nothing else -/
structure Begin (K : PySem.W.Frag) (cs : List (Addr × Addr)) (a : Addr) (H : Hp) : Prop where
  tab : ∀ p ∈ cs, H p.2 = some (.tbl #[])
  only : ∀ b u, H b = some u → (b ∈ cs.map (·.2) ∧ u = .tbl #[]) ∨ (b = a ∧ K.lookup a = none ∧ ∃ o xs, u = .frz o (.lst xs))
theorem enterT (KX : K.In s₁.heap) (gl : s₁.heap.Ns mainGlobals mg) (bl : s₁.heap.Ns builtinsNs mb) (bb : ∀ y : Str, y ≠ "__name__" → mb y = bootBuiltins y) (nl : s₁.heap.NoLimit) (g0 : s₁.gens = #[])
    (tb : ∀ p ∈ cs, s₁.heap.get? p.2 = some { cls := .none, data := .fields #[] }) (nk : ∀ p ∈ cs, K.lookup p.2 = none) (hd : ∀ p ∈ cs, PySem.W.CodeHd s₁.heap p.1 p.2)
    (bmn : ∃ (bm : Addr) (ob : Obj), mg "__builtins__" = some (.ref bm) ∧ bm ≠ builtinsNs ∧ s₁.heap.get? bm = some ob ∧ ob.cls = .type "module" ∧ ob.dict = some builtinsNs ∧ ob.data = .plain)
    (at_ : s₁.heap.get? a = some { cls := .type "list", data := .seq vs.toArray }) (room : Room k callerA) (bind : ∀ (s : Shared) (u : Value), BindsTo s fd ⟨[u], []⟩ [(x, u)])
    (F : ∀ base : Heap, K.In base → base.Ns mainGlobals mg → (∀ p ∈ cs, TabB base mg p.1 p.2) → FnG P w K mg base CX0 k fa fd [x] sp) {H : Hp} (bg : Begin K cs a H) (ok : HOk P w H s₁.heap)
    (want : sp [.ref a] H (fun v _ => v = .bl true) fun _ _ _ => False) :
    codeAny (model P w) callerA (.call (.ref fa) ⟨[.ref a], []⟩) (fun r s' => r = .ok (.ret (.bool true)) ∧ OldK s₁.heap s'.heap ∧ s'.os = s₁.os ∧ AllBare s'.gens) s₁ := by
  have tbm : ∀ b, b ∈ cs.map (·.2) → s₁.heap.get? b = some { cls := .none, data := .fields #[] } := fun b z => by
    obtain ⟨p, hp, rfl⟩ := List.mem_map.mp z
    exact tb p hp
  -- what is no list and no table is not told of
  have free : ∀ {b : Addr} {o : Obj}, s₁.heap.get? b = some o → (∀ it n, o.data ≠ .seq it n) → o.data ≠ .fields #[] → H b = none := fun {b o} z nd nf => by
    cases q : H b with
    | none => rfl
    | some u =>
      rcases bg.only b u q with ⟨m, _⟩ | ⟨rfl, _⟩
      · rw [tbm b m] at z
        cases z
        exact absurd rfl nf
      · rw [at_] at z
        cases z
        exact absurd rfl (nd vs.toArray _)
  have dic : ∀ {b : Addr} {o : Obj} {es : Array DictEntry} {ep : Nat}, s₁.heap.get? b = some o → o.data = .dict es ep → H b = none := fun {b o es ep} z d => free z (fun it n y => by rw [d] at y; exact nomatch y) fun y => by rw [d] at y; exact nomatch y
  have nsOf : ∀ {b : Addr} {m : Str → Option Value}, s₁.heap.Ns b m → (hidT s₁.heap H).Ns b m := fun {b m} ⟨o, es, ep, z, d, r⟩ => ⟨o, es, ep, hidT_get z (dic z d), d, r⟩
  have inB : K.In (hidT s₁.heap H) := fun b o z => by
    refine hidT_get (KX b o z) ?_
    cases q : H b with
    | none => rfl
    | some u =>
      rcases bg.only b u q with ⟨m, _⟩ | ⟨rfl, nl, _⟩
      · obtain ⟨p, hp, rfl⟩ := List.mem_map.mp m
        rw [nk p hp] at z
        cases z
      · rw [nl] at z
        cases z
  have md : Mod K mg (hidT s₁.heap H) := ⟨inB, nsOf gl, ⟨mb, nsOf bl, bb⟩, let ⟨mc, y1, y2⟩ := nl; ⟨mc, nsOf y1, y2⟩⟩
  have tabs : ∀ p ∈ cs, TabB (hidT s₁.heap H) mg p.1 p.2 := fun p hp => by
    have hP := tb p hp
    refine ⟨?_, ?_, fun z => ?_⟩
    · obtain ⟨o, us, f, tf, fl, tg, i, t, tt, z, c1, c2, c3, r⟩ := hd p hp
      refine ⟨o, us, f, tf, fl, tg, i, t, tt, hidT_get z (free z (fun it n y => by rw [c2] at y; exact nomatch y) fun y => ?_), c1, c2, c3, r⟩
      rw [c2] at y
      cases y
      simp at c3
    · obtain ⟨bm, ob, b1, b2, b3, b4, b5, b6⟩ := bmn
      refine ⟨bm, ob, b1, b2, fun z => ?_, fun z => ?_, hidT_get b3 (free b3 (fun it n y => by rw [b6] at y; exact nomatch y) fun y => by rw [b6] at y; exact nomatch y), b4, b5, b6⟩
      · obtain ⟨o, es, ep, e, d, _⟩ := gl
        rw [z, e] at b3
        cases b3
        rw [d] at b6
        exact nomatch b6
      · rw [z, hP] at b3
        cases b3
        exact nomatch b6
    · obtain ⟨o, es, ep, e, d, _⟩ := gl
      rw [z, hP] at e
      cases e
      exact nomatch d
  have en : Env0 P w K mg (hidT s₁.heap H) callerA [] s₁ H := ⟨rfl, md, fun b o z => of_hidT z, Nat.le_of_eq (hidT_size _ _), trivial, fun b z => absurd (show b ∈ ([] : List Addr) from z) (List.not_mem_nil), ok, .of_eq g0⟩
  refine codeAny_mono ((F _ inB (nsOf gl) tabs).run callerA [] s₁ H ⟨[.ref a], []⟩ [.ref a] [.ref a] _ _ room rfl en (bind s₁ (.ref a)) (.cons rfl .nil) want) fun r s' h => ?_
  cases r with
  | error e => exact False.elim h
  | ok fl =>
    cases fl with
    | next => exact False.elim h
    | brk => exact False.elim h
    | cont => exact False.elim h
    | ret u =>
      obtain ⟨v, G, e1, e2, un, okG, rel, q⟩ := h
      obtain rfl : v = V.bl true := q
      obtain rfl : u = Value.bool true := rel
      -- a table may have grown, all else stands
      have grow : ∀ p ∈ cs, ∃ more : Array Value, s'.heap.get? p.2 = some { cls := .none, data := .fields more } := fun p hp => by
        obtain ⟨more, z⟩ := un.tbls p.2 #[] (bg.tab p hp)
        exact ⟨_, okG p.2 _ z⟩
      have stay : ∀ b o, b ∉ cs.map (·.2) → s₁.heap.get? b = some o → s'.heap.get? b = some o := fun b o nb z => by
        cases q : H b with
        | none => exact un.keep b o z q (fun y => nomatch y) (fun y => nomatch y)
        | some u =>
          rcases bg.only b u q with ⟨m, _⟩ | ⟨_, _, ob, xs, rfl⟩
          · exact absurd m nb
          · have z1 := (ok b _ q).1
            have z2 := (okG b _ (un.frzs b ob _ q)).1
            rw [z] at z1
            cases z1
            exact z2
      refine ⟨rfl, ⟨fun b o z => ?_, fun b o z => ?_⟩, e1, e2⟩
      · by_cases m : b ∈ cs.map (·.2)
        · obtain ⟨p, hp, rfl⟩ := List.mem_map.mp m
          obtain ⟨more, hm⟩ := grow p hp
          rw [tb p hp] at z
          cases z
          exact .inr (.inl ⟨((hd p hp).tab (tb p hp)).isCodeTable, rfl, #[], more, rfl, by rw [Array.empty_append]; exact hm⟩)
        · exact .inl (stay b o m z)
      · by_cases m : b ∈ cs.map (·.2)
        · obtain ⟨p, hp, rfl⟩ := List.mem_map.mp m
          obtain ⟨more, hm⟩ := grow p hp
          exact ⟨_, hm⟩
        · exact ⟨o, stay b o m z⟩
theorem enterT_all (KX : K.In s₁.heap) (gl : s₁.heap.Ns mainGlobals mg) (bl : s₁.heap.Ns builtinsNs mb) (bb : ∀ y : Str, y ≠ "__name__" → mb y = bootBuiltins y) (nl : s₁.heap.NoLimit) (g0 : s₁.gens = #[])
    (tb : ∀ p ∈ cs, s₁.heap.get? p.2 = some { cls := .none, data := .fields #[] }) (nk : ∀ p ∈ cs, K.lookup p.2 = none) (hd : ∀ p ∈ cs, PySem.W.CodeHd s₁.heap p.1 p.2)
    (bmn : ∃ (bm : Addr) (ob : Obj), mg "__builtins__" = some (.ref bm) ∧ bm ≠ builtinsNs ∧ s₁.heap.get? bm = some ob ∧ ob.cls = .type "module" ∧ ob.dict = some builtinsNs ∧ ob.data = .plain)
    (at_ : s₁.heap.get? a = some { cls := .type "list", data := .seq vs.toArray }) (ia : IntsAre vs ns) (small : ns.length ≤ sizeLine) (room : Room k callerA) (bind : ∀ (s : Shared) (u : Value), BindsTo s fd ⟨[u], []⟩ [(x, u)])
    (F : ∀ base : Heap, K.In base → base.Ns mainGlobals mg → (∀ p ∈ cs, TabB base mg p.1 p.2) → FnG P w K mg base CX0 k fa fd [x] sp)
    (want : ∀ H : Hp, (∀ p ∈ cs, H p.2 = some (.tbl #[])) → SqL K H a (ns.map V.int) → sp [.ref a] H (fun v _ => v = .bl true) fun _ _ _ => False) :
    codeAny (model P w) callerA (.call (.ref fa) ⟨[.ref a], []⟩) (fun r s' => r = .ok (.ret (.bool true)) ∧ OldK s₁.heap s'.heap ∧ s'.os = s₁.os ∧ AllBare s'.gens) s₁ := by
  have rel := vals_ints ia
  have len := ia.length
  have tbm : ∀ b, b ∈ cs.map (·.2) → s₁.heap.get? b = some { cls := .none, data := .fields #[] } := fun b z => by
    obtain ⟨p, hp, rfl⟩ := List.mem_map.mp z
    exact tb p hp
  have an : a ∉ cs.map (·.2) := fun z => by
    have e := tbm a z
    rw [at_] at e
    exact nomatch congrArg Obj.data (Option.some.inj e)
  have mem : ∀ p ∈ cs, p.2 ∈ cs.map (·.2) := fun p hp => List.mem_map.mpr ⟨p, hp, rfl⟩
  cases hk : K.lookup a with
  | some o =>
    have z := KX a o hk
    rw [at_] at z
    cases z
    let H : Hp := fun b => if b ∈ cs.map (·.2) then some (.tbl #[]) else none
    have e1 : ∀ b, b ∈ cs.map (·.2) → H b = some (.tbl #[]) := fun b m => if_pos m
    have e2 : ∀ b u, H b = some u → b ∈ cs.map (·.2) ∧ u = .tbl #[] := fun b u z => by
      by_cases m : b ∈ cs.map (·.2)
      · rw [e1 b m] at z
        cases z
        exact ⟨m, rfl⟩
      · rw [show H b = none from if_neg m] at z
        cases z
    refine enterT KX gl bl bb nl g0 tb nk hd bmn at_ room bind F (H := H) ⟨fun p hp => e1 _ (mem p hp), fun b u z => .inl (e2 b u z)⟩ (fun b u z => ?_)
      (want H (fun p hp => e1 _ (mem p hp)) (.inr ⟨_, vs.toArray, _, hk, rfl, rfl, rfl, by rw [List.size_toArray, len]; exact small, by simpa using rel⟩))
    obtain ⟨m, rfl⟩ := e2 b u z
    exact tbm b m
  | none =>
    let ob : Obj := { cls := .type "list", data := .seq vs.toArray }
    let H : Hp := fun b => if b = a then some (.frz ob (.lst (ns.map V.int))) else if b ∈ cs.map (·.2) then some (.tbl #[]) else none
    have hit : H a = some (.frz ob (.lst (ns.map V.int))) := if_pos rfl
    have e1 : ∀ b, b ∈ cs.map (·.2) → H b = some (.tbl #[]) := fun b m => (if_neg (fun z => an (by rw [← z]; exact m))).trans (if_pos m)
    have e2 : ∀ b u, H b = some u → (b ∈ cs.map (·.2) ∧ u = .tbl #[]) ∨ (b = a ∧ u = .frz ob (.lst (ns.map V.int))) := fun b u z => by
      by_cases i : b = a
      · rw [i, hit] at z
        cases z
        exact .inr ⟨i, rfl⟩
      · by_cases m : b ∈ cs.map (·.2)
        · rw [e1 b m] at z
          cases z
          exact .inl ⟨m, rfl⟩
        · rw [show H b = none from (if_neg i).trans (if_neg m)] at z
          cases z
    refine enterT KX gl bl bb nl g0 tb nk hd bmn at_ room bind F (H := H) ⟨fun p hp => e1 _ (mem p hp), fun b u z => (e2 b u z).imp id fun ⟨i, e⟩ => ⟨i, hk, ob, _, e⟩⟩ (fun b u z => ?_) (want H (fun p hp => e1 _ (mem p hp)) (.inl (.inr ⟨ob, hit⟩)))
    rcases e2 b u z with ⟨m, rfl⟩ | ⟨rfl, rfl⟩
    · exact tbm b m
    · exact ⟨at_, by rw [List.length_map]; exact small, vs, _, rel, at_⟩
end
/-- a def of the text whose code object's table is empty at the law's start -/
def Bare (mg : Str → Option Value) (h : Heap) (nm : Str) : Prop := ∃ (a c P : Addr) (o : Obj) (fd : FuncData), mg nm = some (.ref a) ∧ h.get? a = some o ∧ o.data = .func fd ∧ fd.code = .ref c ∧ PySem.W.CodeHd h c P ∧ h.get? P = some { cls := .none, data := .fields #[] }
/-- what k_head leaves, from the law's promise; nms: the defs that hold generator expressions -/
theorem walkGT {l : PySem.W.OpenLaw} {n k : Nat} {q : Program} {loose : List Str} {XP : (Str → Option Value) → Heap → Prop} {YP : World → Heap → Prop} {d : DefRec} {K : Params → PySem.W.Frag} {x : Str} (nms : List Str)
    (hn : l.most = some n) (hz : n ≤ sizeLine) (hdf : d.params.defaults = []) (room : Room k callerA) (hrec : (nms.all fun nm => (recsOf q).any fun e => e.name == nm) = true) (hY : ∀ (w : World) (h : Heap), YP w h → (K w.params).In h)
    (F : ∀ (w : World) (mg : Str → Option Value) (fa : Addr) (h : Heap), (K w.params).In h → h.Ns mainGlobals mg → mg d.name = some (.ref fa) → (∀ nm ∈ nms, Bare mg h nm) →
      ∃ (fd : FuncData) (cs : List (Addr × Addr)) (sp : Sp), (∀ p ∈ cs, h.get? p.2 = some { cls := .none, data := .fields #[] }) ∧ (∀ p ∈ cs, (K w.params).lookup p.2 = none) ∧ (∀ p ∈ cs, PySem.W.CodeHd h p.1 p.2) ∧ (∀ (s : Shared) (u : Value), BindsTo s fd ⟨[u], []⟩ [(x, u)]) ∧
        (∀ (H : Hp) (a : Addr) (ns : List Int), ns.length ≤ n → (∀ p ∈ cs, H p.2 = some (.tbl #[])) → SqL (K w.params) H a (ns.map V.int) → sp [.ref a] H (fun v _ => v = .bl true) fun _ _ _ => False) ∧
        ∀ base : Heap, (K w.params).In base → base.Ns mainGlobals mg → (∀ p ∈ cs, TabB base mg p.1 p.2) → FnG l.prog w (K w.params) mg base CX0 k fa fd [x] sp) :
    PySem.W.WalkO q loose XP YP l.row.toRowW d [] (fun f vs => PySem.call f vs) := by
  refine Att.attach_call hn hdf fun w s0 s1 mg mb fa o pm cd doc a vs ns G Y ho hd hcd hmg hobj ia len g0 => ?_
  obtain ⟨fd, cs, sp, t1, t2, t3, bi, wt, FF⟩ := F w mg fa _ (hY w _ Y) G.T.g hmg fun nm hnm => by
    obtain ⟨e, he, en⟩ := List.any_eq_true.mp (List.all_eq_true.mp hrec nm hnm)
    obtain ⟨b, o2, fd2, c2, P2, h1, h2, h3, h4, h5, h6⟩ := G.T.tab e he
    rw [beq_iff_eq.mp en] at h1
    exact ⟨b, c2, P2, o2, fd2, h1, h2, h3, h4, PySem.W.CodeHd.of h5 h6, h6.2⟩
  exact enterT_all (hY w _ Y) G.T.g G.T.b G.T.builtins G.T.nolimit g0 t1 t2 t3 G.T.bmain hobj ia (Nat.le_trans len hz) room bi FF fun H ht hs => wt H a ns len ht hs
end LG
-- SL
/-! sum(a list of lists, a list); set(a list of ints) -/
namespace LM
open PySem PySem.Spec PyProof.Rows L2
section
variable {prog : Program} {w : World} {A : Around} {R : Result → Shared → Prop}
abbrev lob (xs : Array Value) (n : Nat) : Obj := { cls := .type "list", dict := none, data := .seq xs n, slots := #[] }
/-- what stands while the lists are put together: h0 is the heap ahead, acc holds what is put together -/
structure Mid (h0 : Heap) (I S l : Addr) (items : Array Value) (i : Nat) (acc : Addr) (p : Array Value) (m : Nat) (h : Heap) : Prop where
  keep : ∀ b o, h0.get? b = some o → h.get? b = some o
  it : h.IsListIter I l i
  st : ∃ c, h.get? S = some (lob #[.ref acc] c)
  ac : h.get? acc = some (lob p m)
  aI : acc ≠ I
  aS : acc ≠ S
theorem loop (hh : A.handled = none) {b0 : Addr} {h0 : Heap} {I S l : Addr} {items : Array Value} {c : Nat → Addr} {ys : Nat → Array Value} {nn : Nat → Nat} {pre : Nat → Array Value} (hl : h0.IsList l items) (lI : l ≠ I) (gI : h0.objs.size ≤ I) (nI : h0.get? I = none) (nS : h0.get? S = none) (IS : I ≠ S)
    (hi : ∀ j, j < items.size → items[j]? = some (.ref (c j)) ∧ h0.get? (c j) = some (lob (ys j) (nn j))) (hp : ∀ j, j < items.size → pre (j + 1) = pre j ++ ys j) (hz : ∀ j, j ≤ items.size → (pre j).size ≤ sizeLine) :
    ∀ (k i : Nat) (s : Shared) (acc : Addr) (m : Nat), items.size - i = k → i ≤ items.size → Mid h0 I S l items i acc (pre i) m s.heap → (i = 0 ∧ acc = b0) ∨ h0.objs.size ≤ acc →
      (∀ h' tk acc' m', (∀ b o, h0.get? b = some o → h'.get? b = some o) → h'.get? acc' = some (lob (pre items.size) m') → (items.size = 0 ∧ acc' = b0) ∨ h0.objs.size ≤ acc' → R (.ok (.ret (.ref acc'))) { s with heap := h', toks := tk }) →
      codeAny (model prog w) A (.builtin "sum.loop" ⟨[.ref I, .ref S, rawInt 2, rawInt 0], []⟩) R s := by
  have ne0 : ∀ {b : Addr} {o : Obj} {x : Addr}, h0.get? b = some o → h0.get? x = none → b ≠ x := fun e n z => by
    rw [z, n] at e
    cases e
  intro k
  induction k with
  | zero =>
    intro i s acc m hk hle M fr hR
    obtain rfl : i = items.size := by omega
    obtain ⟨cc, hS⟩ := M.st
    refine codeAny_builtin F.entry_sum_loop ?_; rw [Around.under_plainId F.plain_sum_loop _]
    show wpAny _ A.in1 (seqItems? (.ref S) >>= _) _ _ s; refine wpAny_bind (wpAny_seqItems hS rfl ?_)
    show wpAny _ A.in1 (tryCatch (pyNext (.ref I)) _ >>= _) _ _ s; refine wpAny_bind (wpAny_tryCatch ((Walks.list (A := A.in1) hh I l lI items).done s _ _ ⟨M.it, hl.at fun o e => M.keep _ o e⟩ fun h' tk kk => ?_))
    exact wpAny_pure (hR h' tk acc m (fun b o e => kk b o (fun z => ne0 e nI (List.mem_singleton.mp z)) (M.keep b o e)) (kk _ _ (fun z => M.aI (List.mem_singleton.mp z)) M.ac) fr)
  | succ k ih =>
    intro i s acc m hk hle M fr hR
    have hlt : i < items.size := by omega
    obtain ⟨cc, hS⟩ := M.st
    refine codeAny_builtin F.entry_sum_loop ?_; rw [Around.under_plainId F.plain_sum_loop _]
    show wpAny _ A.in1 (seqItems? (.ref S) >>= _) _ _ s; refine wpAny_bind (wpAny_seqItems hS rfl ?_)
    show wpAny _ A.in1 (tryCatch (pyNext (.ref I)) _ >>= _) _ _ s
    refine wpAny_bind (wpAny_tryCatch ((Walks.list (A := A.in1) hh I l lI items).item i s _ _ hlt ⟨M.it, hl.at fun o e => M.keep _ o e⟩ fun v h1 tk1 hv st1 kk => ?_))
    obtain ⟨e1, e2⟩ := hi i hlt
    rw [e1] at hv
    cases hv
    have sub : ∀ {b : Addr}, b ≠ I → b ∉ [I] := fun n z => n (List.mem_singleton.mp z)
    have k1 : ∀ b o, h0.get? b = some o → h1.get? b = some o := fun b o e => kk b o (sub (ne0 e nI)) (M.keep b o e)
    have S1 := kk S _ (sub (Ne.symm IS)) hS
    have A1 := kk acc _ (sub M.aI) M.ac
    have lt : ∀ {b : Addr} {o : Obj}, h1.get? b = some o → b ≠ h1.objs.size := fun e => Nat.ne_of_lt (Heap.lt_size e)
    show wpAny _ A.in1 ((holding [Value.ref (c i)] (binaryOp .Add (.ref acc) (.ref (c i)))).attempt >>= _) _ _ _
    refine wpAny_bind (wpAny_attempt (wpAny_holding (PySem.P.add_list A1 (k1 _ _ e2) ?_ (by have := hz (i + 1) hlt; rw [hp i hlt, Array.size_append] at this; exact this))))
    -- the new list takes the elder one's place
    have S2 : (h1.push (lob (pre i ++ ys i) 0)).get? S = some (lob #[.ref acc] cc) := Heap.get?_push_of_some _ S1
    show wpAny _ A.in1 (updateSeq S (fun _ => #[Value.ref h1.objs.size]) >>= _) _ _ _; refine wpAny_bind (wpAny_updateSeq S2 rfl ?_)
    have S3 := Heap.get?_update_self (Obj.mapSeq fun _ => #[Value.ref h1.objs.size]) S2 rfl
    refine wpAny_bind (wpAny_letGo ?_); refine wpAny_bind (wpAny_updateSeq S3 rfl ?_)
    have S4 := Heap.get?_update_self (Obj.mapSeq fun _ => #[Value.ref h1.objs.size]) S3 rfl
    have k4 : ∀ b o, b ≠ S → h1.get? b = some o → (((h1.push (lob (pre i ++ ys i) 0)).update S (Obj.mapSeq fun _ => #[Value.ref h1.objs.size])).update S (Obj.mapSeq fun _ => #[Value.ref h1.objs.size])).get? b = some o := fun b o n e =>
      (Heap.get?_update_other _ _ (Ne.symm n)).trans ((Heap.get?_update_other _ _ (Ne.symm n)).trans (Heap.get?_push_of_some _ e))
    have aS : h1.objs.size ≠ S := fun z => lt S1 z.symm
    have aI : h1.objs.size ≠ I := fun z => by
      obtain ⟨o, e, _⟩ := st1.1
      exact lt e z.symm
    refine wpAny_pure ⟨plainId_quiet F.plain_sum_loop _, ih (i + 1) _ h1.objs.size 0 (by omega) hlt ⟨fun b o e => k4 b o (ne0 e nS) (k1 b o e), st1.1.at fun o e => k4 I o IS e, ⟨_, S4⟩, ?_, aI, aS⟩ (.inr ?_) fun h' tk acc' m' q1 q2 q3 => hR h' tk acc' m' q1 q2 q3⟩
    rotate_left
    · obtain ⟨o, e, _⟩ := st1.1
      exact Nat.le_of_lt (Nat.lt_of_le_of_lt gI (Heap.lt_size e))
    rw [hp i hlt]
    exact (Heap.get?_update_other _ _ (Ne.symm aS)).trans ((Heap.get?_update_other _ _ (Ne.symm aS)).trans (Heap.get?_push_size _ rfl))
theorem args2 (a b : Value) : argsOk "sum" ⟨[a, b], []⟩ := by unfold argsOk; kernel_rfl
theorem sum_lists {E : Value → Shared → Prop} {Q : Value → Shared → Prop} {s : Shared} (hh : A.handled = none) {l b : Addr} {items bs : Array Value} {nb : Nat} {c : Nat → Addr} {ys : Nat → Array Value} {nn : Nat → Nat} {pre : Nat → Array Value} (hl : s.heap.IsList l items) (hb : s.heap.get? b = some (lob bs nb))
    (hi : ∀ j, j < items.size → items[j]? = some (.ref (c j)) ∧ s.heap.get? (c j) = some (lob (ys j) (nn j))) (h0 : pre 0 = bs) (hp : ∀ j, j < items.size → pre (j + 1) = pre j ++ ys j) (hz : ∀ j, j ≤ items.size → (pre j).size ≤ sizeLine)
    (hQ : ∀ h' tk acc m, (∀ b o, s.heap.get? b = some o → h'.get? b = some o) → h'.get? acc = some (lob (pre items.size) m) → (items.size = 0 ∧ acc = b) ∨ s.heap.objs.size ≤ acc → Q (.ref acc) { s with heap := h', toks := tk }) :
    wpAny (model prog w) A (call (.builtin "sum") [.ref l, .ref b]) Q E s := by
  refine call_function_tree F.kind_sum F.plain_sum F.entry_sum (args2 _ _) ?_
  unfold Builtin.«sum»
  simp only [List.length_cons, List.length_nil]; rw [if_neg (by decide)]
  refine wpAny_bind (wpAny_of_eq (show Builtin.Builtins.bindParams "sum" ["start"] 0 ⟨[.ref b], []⟩ = pure [some (.ref b)] from rfl) ?_)
  refine wpAny_bind (wpAny_pyIter_list hl ?_)
  refine wpAny_bind (wpAny_pure ?_)
  have ob : (s.heap.push { cls := .type "list_iterator", data := .fields #[.ref l, .int 0 0] }).get? b = some (lob bs nb) := Heap.get?_push_of_some _ hb
  have ty : Shared.TypeIs { s with heap := s.heap.push { cls := .type "list_iterator", data := .fields #[.ref l, .int 0 0] } } (.ref b) "list" := ⟨_, ob, rfl⟩
  simp only [List.forIn_cons, List.forIn_nil]
  refine wpAny_bind (wpAny_bind (wpAny_bind (wpAny_isInstance (T := "list") (b := false) ty F.sub_list_str ?_))); simp only [Bool.false_eq_true, if_false]
  refine wpAny_pure (wpAny_bind (wpAny_bind (wpAny_isInstance (T := "list") (b := false) ty F.sub_list_bytes ?_))); simp only [Bool.false_eq_true, if_false]
  refine wpAny_pure (wpAny_bind (wpAny_bind (wpAny_isInstance (T := "list") (b := false) ty (by rw [isSubtype_type]; kernel_rfl) ?_))); simp only [Bool.false_eq_true, if_false]
  refine wpAny_pure (wpAny_pure ?_)
  refine wpAny_bind (wpAny_newObj_type ?_)
  have hsz : (s.heap.push { cls := .type "list_iterator", data := .fields #[.ref l, .int 0 0] }).objs.size = s.heap.objs.size + 1 := Heap.size_push ..
  have non : ∀ x, s.heap.objs.size ≤ x → s.heap.get? x = none := fun x hx => by
    cases e : s.heap.get? x with
    | none => rfl
    | some o => exact absurd (Nat.lt_of_lt_of_le (Heap.lt_size e) hx) (Nat.lt_irrefl _)
  have ll : l < s.heap.objs.size := by
    obtain ⟨o, e, _⟩ := hl
    exact Heap.lt_size e
  refine wpAny_pure ⟨plainId_quiet F.plain_sum_loop _, loop (R := _) (b0 := b) (h0 := s.heap) (I := s.heap.objs.size) (c := c) (ys := ys) (nn := nn) (pre := pre) hh hl (Nat.ne_of_lt ll) (Nat.le_refl _) (non _ (Nat.le_refl _)) (non _ (by show s.heap.objs.size ≤ _; rw [hsz]; exact Nat.le_succ _)) (by show s.heap.objs.size ≠ _; rw [hsz]; exact Nat.ne_of_lt (Nat.lt_succ_self _)) hi hp hz
    items.size 0 _ b nb (Nat.sub_zero _) (Nat.zero_le _) ⟨fun x o e => Heap.get?_push_of_some _ (Heap.get?_push_of_some _ e), ⟨_, Heap.get?_push_of_some _ (Heap.get?_push_size _ rfl), rfl, rfl⟩, ⟨0, Heap.get?_push_size _ rfl⟩, ?_, ?_, ?_⟩ (.inl ⟨rfl, rfl⟩) fun h' tk acc m q1 q2 q3 => hQ h' tk acc m q1 q2 q3⟩
  · rw [h0]
    exact Heap.get?_push_of_some _ ob
  · exact Nat.ne_of_lt (Heap.lt_size hb)
  · show b ≠ _
    rw [hsz]
    exact Nat.ne_of_lt (Nat.lt_succ_of_lt (Heap.lt_size hb))
end
section
variable {X : Cx}
/-- the lists of xs, one behind the other -/
def Lists (H : Hp) (xs : List V) (yss : List (List V)) : Prop := xs.length = yss.length ∧ ∀ (j : Nat) (zs : List V), yss[j]? = some zs → ∃ c : Addr, xs[j]? = some (V.ref c) ∧ H c = some (.lst zs)
def preA (b : Array Value) (ys : Nat → Array Value) : Nat → Array Value
  | 0 => b
  | j + 1 => preA b ys j ++ ys j
theorem vals_pre {bs : List V} {b : Array Value} {ys : Nat → Array Value} {yss : List (List V)} (hb : Vals bs b.toList) (h : ∀ j zs, yss[j]? = some zs → Vals zs (ys j).toList) : ∀ j, j ≤ yss.length → Vals (bs ++ (yss.take j).flatten) (preA b ys j).toList
  | 0, _ => by
    rw [List.take_zero, List.flatten_nil, List.append_nil]
    exact hb
  | j + 1, hj => by
    obtain ⟨zs, e⟩ : ∃ zs, yss[j]? = some zs := ⟨yss[j], List.getElem?_eq_getElem hj⟩
    rw [List.take_add_one, e]
    show Vals (bs ++ (yss.take j ++ [zs]).flatten) (preA b ys j ++ ys j).toList
    rw [List.flatten_append, ← List.append_assoc, Array.toList_append]
    refine (vals_pre hb h j (by omega)).append ?_
    rw [show [zs].flatten = zs by simp]
    exact h j zs e
theorem cr_sumL (hc : X.calm = true) : CallR X (.builtin "sum") (fun vs H Q => ∃ (a b : Addr) (xs bs : List V) (yss : List (List V)), vs = [.ref a, .ref b] ∧ SqL X.K H a xs ∧ H b = some (.lst bs) ∧ Lists H xs yss ∧ bs.length + yss.flatten.length ≤ sizeLine ∧
    (xs = [] → Q (.ref b) H) ∧ ∀ p, H p = none → Q (.ref p) (upd H p (.lst (bs ++ yss.flatten)))) := by
  intro pins s σ H vs us Q I r h
  obtain ⟨a, b, xs, bs, yss, rfl, ha, hb, ⟨ln, hL⟩, hz, q0, q1⟩ := h
  obtain ⟨u, v, rfl, e1, e2⟩ := vals2 r
  cases (show u = Value.ref a from e1)
  cases (show v = Value.ref b from e2)
  obtain ⟨its, rv, pl, _⟩ := I.list ha
  obtain ⟨_, bits, nb, rb, lb, eb⟩ := I.lstM hb
  have nlen := rv.length
  -- the items' lists as they stand
  have ex : ∀ j : Nat, ∃ p : Addr × Array Value × Nat, ∀ zs : List V, yss[j]? = some zs → xs[j]? = some (.ref p.1) ∧ Vals zs p.2.1.toList ∧ zs.length = p.2.1.size ∧ s.heap.get? p.1 = some (lob p.2.1 p.2.2) := fun j => by
    cases e : yss[j]? with
    | none => exact ⟨(0, #[], 0), fun zs z => nomatch z⟩
    | some zs =>
      obtain ⟨c, hx, hc⟩ := hL j zs e
      obtain ⟨_, zi, n, rz, lz, ez⟩ := I.lstM hc
      exact ⟨(c, zi.toArray, n), fun z2 q => by cases q; exact ⟨hx, rz, by rw [List.size_toArray]; exact lz, ez⟩⟩
  let f := fun j => Classical.choose (ex j)
  have hf : ∀ (j : Nat) (zs : List V), yss[j]? = some zs → xs[j]? = some (.ref (f j).1) ∧ Vals zs (f j).2.1.toList ∧ zs.length = (f j).2.1.size ∧ s.heap.get? (f j).1 = some (lob (f j).2.1 (f j).2.2) := fun j => Classical.choose_spec (ex j)
  have sz : its.toArray.size = yss.length := by rw [List.size_toArray, ← nlen, ln]
  have vp := vals_pre (b := bits.toArray) (ys := fun j => (f j).2.1) (yss := yss) rb fun j zs e => (hf j zs e).2.1
  have pz : ∀ j, j ≤ its.toArray.size → (preA bits.toArray (fun j => (f j).2.1) j).size ≤ sizeLine := fun j hj => by
    have l := (vp j (by omega)).length
    rw [List.length_append] at l
    have e3 : (preA bits.toArray (fun j => (f j).2.1) j).toList.length = (preA bits.toArray (fun j => (f j).2.1) j).size := Array.length_toList
    have : (yss.take j).flatten.length ≤ yss.flatten.length := by
      have e := congrArg (fun l : List (List V) => l.flatten.length) (List.take_append_drop j yss)
      simp only [List.flatten_append, List.length_append] at e
      omega
    omega
  refine sum_lists (c := fun j => (f j).1) (ys := fun j => (f j).2.1) (nn := fun j => (f j).2.2) (pre := preA bits.toArray fun j => (f j).2.1) (I.ok.hd hc) pl.isList eb (fun j hj => ?_) rfl (fun j _ => rfl) pz fun h' tk acc m keep at_ fr => ?_
  · obtain ⟨zs, e⟩ : ∃ zs, yss[j]? = some zs := ⟨yss[j]'(by omega), List.getElem?_eq_getElem (by omega)⟩
    obtain ⟨hx, _, _, hg⟩ := hf j zs e
    obtain ⟨y, ey, ry⟩ := rv.get hx
    cases (show y = Value.ref (f j).1 from ry)
    exact ⟨by simpa using ey, hg⟩
  · rcases fr with ⟨z, rfl⟩ | z
    · have : xs = [] := List.length_eq_zero_iff.mp (by rw [nlen]; simpa using z)
      exact ⟨.ref acc, H, I.kept (t' := tk) keep, rfl, q0 this⟩
    · have vals := vp yss.length (Nat.le_refl _)
      rw [List.take_length] at vals
      have at2 : h'.get? acc = some (lob (preA bits.toArray (fun j => (f j).2.1) yss.length) m) := by rw [← sz]; exact at_
      have J := I.laid (t' := tk) (o := .lst (bs ++ yss.flatten)) keep z ⟨by rw [List.length_append]; exact hz, _, m, vals, at2⟩
      exact ⟨.ref acc, _, J, rfl, q1 acc (I.hok.fresh z)⟩
/-- set(a list of whole numbers): nothing else is in it -/
theorem call_setL (hc : X.calm = true) : CallR X (.type "set") (fun vs H Q => ∃ (a : Addr) (ns : List Int), vs = [.ref a] ∧ SqL X.K H a (ns.map V.int) ∧ ns.length ≤ 40 ∧ ∀ p S n, H p = none → (∀ k, S k = true → k ∈ ns) → n ≤ ns.length → Q (.ref p) (upd H p (.set S n))) := by
  intro pins s σ H vs us Q I r h
  obtain ⟨a, ns, rfl, ha, hz, q⟩ := h
  obtain ⟨u, rfl, e1⟩ := vals1 r
  cases (show u = Value.ref a from e1)
  obtain ⟨its, rv, pl, _⟩ := I.list ha
  have il := rv.length
  rw [List.length_map] at il
  refine call_set_list (ns := ns) (I.ok.hd hc) pl.isList (by simpa using rv.ints) (by rw [List.size_toArray]; exact Nat.lt_of_le_of_lt (by omega) (by decide : 41 < scanBound)) fun h' tk hs keep => ?_
  have eN : its.toArray.size = ns.length := by rw [List.size_toArray, il]
  rw [eN] at hs
  have J := I.laid (t' := tk) (a := s.heap.objs.size) (o := .set _ _) (fun b o e => keep b o (Heap.lt_size e) e) (Nat.le_refl _) hs
  refine ⟨.ref s.heap.objs.size, _, J, rfl, q _ _ _ (I.hok.fresh (Nat.le_refl _)) (fun k hk => ?_) (firstMet_length_le _ _)⟩
  have hk : (firstMet (fun i => ns.getD i 0) ns.length).any (· == k) = true := hk
  rw [firstMet_any, List.any_map, List.any_eq_true] at hk
  obtain ⟨j, hj, e⟩ := hk
  have hj := List.mem_range.mp hj
  have e2 : ns.getD j 0 = k := by simpa using e
  rw [← e2, List.getD_eq_getElem?_getD, List.getElem?_eq_getElem hj]
  exact List.getElem_mem hj
end
end LM
-- SR
/-! set(a list of whole numbers), made so that it may be gone through in its order -/
namespace LM
open PySem PySem.Spec PyProof.Rows L2
section
variable {P : Program} {w : World} {A : Around} {E : Value → Shared → Prop}
/-- turn by turn -/
theorem fill_turns {R : Result → Shared → Prop} {it D : Addr} {fp wr : List Addr} {G : Array GenState → Array GenState → Prop} {ns : List Int} {n : Nat} {Pv : Nat → Value → Prop} {St : Nat → Shared → Prop}
    (W : WalksS P w A.in1 it fp wr G n Pv St) (hn : n = ns.length) (val : ∀ i v, Pv i v → ∃ t, v = .int (ns.getD i 0) t) (off : D ∉ fp) (room : ns.length + 1 < scanBound) :
    ∀ (left i : Nat) (u : Shared), ns.length = i + left → St i u → (∃ S m, SetR w u.heap D S m ∧ (∀ k, S k = true → k ∈ ns) ∧ m ≤ i) →
      (∀ u' S m, Moved (D :: wr) G u u' → SetR w u'.heap D S m → (∀ k, S k = true → k ∈ ns) → m ≤ ns.length → R (.ok (.ret .none)) u') →
      codeAny (model P w) A (.builtin "set.update.loop" ⟨[.ref D, .ref it], []⟩) R u := by
  subst hn
  have offw : D ∉ wr := fun z => off (W.sub _ z)
  have more : ∀ b ∈ wr, b ∈ D :: wr := fun b z => List.mem_cons_of_mem _ z
  intro left
  induction left with
  | zero =>
    intro i u el st ⟨S, m, sr, hS, hm⟩ fin
    obtain rfl : i = ns.length := by omega
    refine codeAny_builtin F.entry_set_update_loop ?_
    rw [Around.under_plainId F.plain_set_update_loop _]
    show wpAny _ A.in1 (pyNext (.ref it) >>= _) _ _ u
    refine wpAny_bind (W.done u _ _ st fun u' mv => ?_)
    show wpAny _ A.in1 (ret Value.none) _ _ u'
    exact wpAny_pure (fin u' S m (mv.mono more) (sr.at fun o e => mv.heap D o offw e) hS hm)
  | succ left ih =>
    intro i u el st ⟨S, m, sr, hS, hm⟩ fin
    refine codeAny_builtin F.entry_set_update_loop ?_
    rw [Around.under_plainId F.plain_set_update_loop _]
    show wpAny _ A.in1 (pyNext (.ref it) >>= _) _ _ u
    refine wpAny_bind (W.item i u _ _ (by omega) st fun v u1 hv st1 mv => ?_)
    obtain ⟨t, rfl⟩ := val i v hv
    have sr1 : SetR w u1.heap D S m := sr.at fun o e => mv.heap D o offw e
    show wpAny _ A.in1 (holding [Value.int (ns.getD i 0) t] (setAdd D (.int (ns.getD i 0) t)) >>= _) _ _ u1
    refine wpAny_bind (wpAny_holding ?_)
    unfold setAdd
    refine wpAny_holding (wpAny_bind ((intKind P w).pyHash (k := ns.getD i 0) (intKind_is _ _ _ _) ?_))
    refine setR_add_hashed (s := { u1 with toks := u1.toks + 1 }) sr1 (by omega) fun h2 sb sr2 => ?_
    have inn : ns.getD i 0 ∈ ns := by
      rw [List.getD_eq_getElem?_getD, List.getElem?_eq_getElem (by omega)]
      exact List.getElem_mem _
    refine wpAny_pure ⟨plainId_quiet F.plain_set_update_loop _, ih (i + 1) _ (by omega) (W.frame _ u1 _ _ st1 (Nat.le_succ _) fun b hb o e => ?_) ⟨_, _, sr2, fun k hk => ?_, ?_⟩ fun u3 S3 m3 mv3 sr3 hS3 hm3 => ?_⟩
    · rw [sb.2 b fun z : b = D => off (by rw [← z]; exact hb)]
      exact e
    · rcases Bool.or_eq_true _ _ |>.mp hk with z | z
      · exact hS k z
      · rw [of_decide_eq_true z]
        exact inn
    · split <;> omega
    · refine fin u3 S3 m3 (Moved.trans W.gtrans ((mv.mono more).then_heap (Nat.le_succ _) fun b o hb e => ?_) mv3) sr3 hS3 hm3
      rw [sb.2 b fun z : b = D => hb (by rw [z]; exact List.mem_cons_self)]
      exact e
theorem made_led (a : Value) {u : Shared} {Q1 : Value → Shared → Prop}
    (go : Q1 (.ref u.heap.objs.size) { u with heap := u.heap.push { cls := .type "set", dict := none, data := .set #[] 0 (.fresh 0 0 (!w.params.followText "set-order")) } }) :
    codeAny (model P w) A (.call (.builtin "set.__new__") ⟨[.type "set", a], []⟩) (wants Q1 E) u := by
  refine codeAny_of_tree (show wpAny _ A.in1 (do checkBuiltinCall "set.__new__" ⟨[.type "set", a], []⟩; again (.builtin "set.__new__" ⟨[.type "set", a], []⟩)) _ _ u from ?_)
  refine wpAny_bind (wpAny_of_eq (F.newCall_set_1 a) (wpAny_pure ⟨plainId_quiet F.plain_set_new _, codeAny_builtin F.entry_set_new ?_⟩))
  rw [Around.under_plainId F.plain_set_new _]
  unfold Builtin.«set.__new__» Builtin.Frozenset.newClass
  have selfsub := sub_set_self
  obtain ⟨x1, x2, x3, x4, x5⟩ := u
  dsimp only
  wp_walk
  refine wpAny_askSetting (wpAny_pure ?_)
  dsimp only
  simp only [newObj]
  exact wpAny_bind (wpAny_alloc (wpAny_pure (wpAny_pure go)))
theorem set_ints {u : Shared} {l : Addr} {its : Array Value} {ns : List Int} {Q : Value → Shared → Prop} (calm : A.handled = none) (hl : u.heap.IsList l its) (hin : IntsAre its.toList ns) (room : ns.length + 1 < scanBound)
    (go : ∀ (h2 : Heap) (tk : Nat) (S : Int → Bool) (m : Nat), SetR w h2 u.heap.objs.size S m → (∀ k, S k = true → k ∈ ns) → m ≤ ns.length → (∀ b o, b < u.heap.objs.size → u.heap.get? b = some o → h2.get? b = some o) → Q (.ref u.heap.objs.size) { u with heap := h2, toks := tk }) :
    wpAny (model P w) A (call (.type "set") [.ref l]) Q E u := by
  obtain ⟨cc, tt, mro_is⟩ := F.called_set.mro
  have made_is := F.called_set.made
  have sub_is := F.called_set.sub
  have sz : its.size = ns.length := by
    have := hin.length
    simpa using this
  refine wpAny_call (codeAny_of_tree (show wpAny _ _ (callAny (.type "set") _) _ _ _ from ?_))
  refine wpAny_pure ⟨Code.quiet_builtin _ (by decide +kernel), codeAny_builtin F.entry_type_call ?_⟩
  rw [Around.under_plain (weight_type_call_type "set" [.ref l] []) rfl]
  have c1 := F.called_set.notType
  have c2 := F.called_set.canCreate
  have c3 := F.typeCall_set_1 (.ref l)
  repeat (any_goals (first | assumption | wp_step))
  refine codeAny_mono (made_led (E := E) (.ref l) (Q1 := fun x u1 => x = .ref u.heap.objs.size ∧ u1 = { u with heap := u.heap.push { cls := .type "set", dict := none, data := .set #[] 0 (.fresh 0 0 (!w.params.followText "set-order")) } }) ⟨rfl, rfl⟩) fun r1 u1 h1 => ?_
  cases r1 with
  | error e => exact h1
  | ok fl =>
    cases fl with
    | ret x =>
      obtain ⟨rfl, rfl⟩ := h1
      have sr0 : SetR w (u.heap.push { cls := .type "set", dict := none, data := .set #[] 0 (.fresh 0 0 (!w.params.followText "set-order")) }) u.heap.objs.size (fun _ => false) 0 := setR_fresh w
      have ty0 : Shared.TypeIs { u with heap := u.heap.push { cls := .type "set", dict := none, data := .set #[] 0 (.fresh 0 0 (!w.params.followText "set-order")) } } (.ref u.heap.objs.size) "set" := ⟨_, Heap.get?_push_size _ rfl, rfl⟩
      generalize hob : ({ cls := .type "set", dict := none, data := .set #[] 0 (.fresh 0 0 (!w.params.followText "set-order")) } : Obj) = ob at sr0 ty0
      have getS : (u.heap.push ob).get? u.heap.objs.size = some { cls := .type "set", dict := none, data := .set #[] 0 (.fresh 0 0 (!w.params.followText "set-order")) } := by
        rw [hob]
        exact Heap.get?_push_size _ (by rw [← hob]; rfl)
      have i1 := F.called_set.init.lookup
      have i2 := F.called_set.init.bind (.ref u.heap.objs.size)
      repeat (any_goals (first | assumption | wp_step))
      refine codeAny_mono (codeAny_call_builtin (R := wants (fun y u2 => y = .none ∧ ∃ h2 tk S m, u2 = { u with heap := h2, toks := tk } ∧ SetR w h2 u.heap.objs.size S m ∧ (∀ k, S k = true → k ∈ ns) ∧ m ≤ ns.length ∧
          (∀ b o, b < u.heap.objs.size → u.heap.get? b = some o → h2.get? b = some o)) E) F.called_set.init.plain F.entry_set_init (check_set_init_1 ty0 ?_)) fun r2 u2 h2 => ?_
      · have hl1 : (u.heap.push ob).IsList l its := hl.push _
        obtain ⟨o1, at1, cl1, n1, da1⟩ := hl1
        obtain ⟨ocl, odi, oda, osl⟩ := o1
        simp only at cl1 da1
        subst cl1
        subst da1
        have s1 := F.sub_list_set
        have s2 := F.sub_list_frozenset
        have s3 : (Value.type "list" == Value.type "dict") = false := by decide
        have hl2 : (u.heap.push ob).IsList l its := hl.push _
        unfold Builtin.«set.__init__» noKeywords Builtin.Frozenset.updateFrom
        generalize hgen : pyIter = gen
        wp_walk
        subst hgen
        refine wpAny_pyIter_list hl2 ?_
        refine wpAny_bind (wpAny_runValue ?_)
        have below : l < u.heap.objs.size := by
          obtain ⟨o, e, _⟩ := hl
          exact Heap.lt_size e
        have nh : A.in1.in1.in1.handled = none := by simp [calm]
        have apart : l ≠ (u.heap.push ob).objs.size := by
          rw [Heap.size_push]
          exact Nat.ne_of_lt (Nat.lt_succ_of_lt below)
        have far : u.heap.objs.size ∉ [(u.heap.push ob).objs.size, l] := fun z => by
          rw [Heap.size_push] at z
          rcases List.mem_cons.mp z with z | z
          · exact Nat.ne_of_lt (Nat.lt_succ_self _) z
          · exact Nat.ne_of_gt below (List.mem_singleton.mp z)
        refine fill_turns (ns := ns) ((Walks.list nh _ l apart its).toS) sz (fun i v hv => hin.int_at i v (by rw [Array.getElem?_toList]; exact hv)) far room ns.length 0 _ (by omega) ⟨⟨_, Heap.get?_push_size _ rfl, rfl, rfl⟩, hl2.push _⟩ ⟨_, 0, sr0.at fun o e => Heap.get?_push_of_some _ e, (fun _ z => nomatch z), Nat.le_refl _⟩ fun u3 S m mv sr hS hm => ?_
        obtain ⟨y1, y2, y3, y4, y5⟩ := u3
        obtain rfl : y2 = u.gens := mv.gens
        obtain rfl : y3 = u.drawn := mv.drawn
        obtain rfl : y5 = u.os := mv.os
        refine (show wpAny _ _ _ _ _ _ from wpAny_pure (show wpAny _ _ (ret Value.none) _ _ _ from wpAny_pure ⟨rfl, y1, y4, S, m, rfl, sr, hS, hm, fun b o hb e => ?_⟩))
        refine mv.heap b o (fun z => ?_) (Heap.get?_push_of_some _ (Heap.get?_push_of_some _ e))
        rcases List.mem_cons.mp z with z | z
        · exact Nat.ne_of_lt hb z
        · rw [List.mem_singleton.mp z, Heap.size_push] at hb
          exact Nat.not_lt_of_gt (Nat.lt_succ_self _) hb
      · cases r2 with
        | error e => exact h2
        | ok fl2 =>
          cases fl2 with
          | ret y =>
            obtain ⟨rfl, h3, tk, S, m, rfl, sr, hS, hm, kp⟩ := h2
            repeat (any_goals (first | assumption | wp_step))
            exact go _ _ S m sr hS hm kp
          | _ => exact h2.elim
    | _ => exact h1.elim
theorem call_setR {X : Cx} (hc : X.calm = true) : CallR X (.type "set") (fun xs H Q => ∃ (a : Addr) (ns : List Int), xs = [.ref a] ∧ SqL X.K H a (ns.map V.int) ∧ ns.length ≤ 40 ∧ ∀ p S n, H p = none → (∀ k, S k = true → k ∈ ns) → n ≤ ns.length → Q (.ref p) (upd H p (SetO X.w p S n))) := by
  intro pins s σ H xs us Q I r h
  obtain ⟨a, ns, rfl, ha, hz, q⟩ := h
  obtain ⟨u, rfl, e1⟩ := vals1 r
  cases (show u = Value.ref a from e1)
  obtain ⟨its, rv, pl, _⟩ := I.list ha
  have il := rv.length
  rw [List.length_map] at il
  refine set_ints (ns := ns) (I.ok.hd hc) pl.isList (by simpa using rv.ints) (Nat.lt_of_le_of_lt (by omega) (by decide : 41 < scanBound)) fun h2 tk S m sr hS hm keep => ?_
  have J := I.laid (t' := tk) (a := s.heap.objs.size) (o := SetO X.w s.heap.objs.size S m) (fun b o e => keep b o (Heap.lt_size e) e) (Nat.le_refl _) (setO_new sr)
  exact ⟨.ref s.heap.objs.size, _, J, rfl, q _ _ _ (I.hok.fresh (Nat.le_refl _)) hS hm⟩
end
end LM
-- EX
/-! errors of own classes whose __init__ tells the class's name: C.__name__, e.__class__, isinstance, the whole of a raise -/
namespace LX
open PySem PySem.W PySem.Calls PyProof.Rows Builtin Builtin.ObjectAttr Builtin.Getset_descriptor
section
variable {prog : Program} {w : World} {A : Around} {E : Value → Shared → Prop} {s : Shared} {K : Frag} {R : Result → Shared → Prop} {C : Addr}
/-- the name that a class keeps in its slots -/
theorem kept_name {tp v : Value} {o : Obj} (X : K.In s.heap) (tC : typeIn K (.ref C) = some (.type "type")) (ho : K.lookup C = some o) (hs : o.slots[2]? = some (some v)) (h : R (.ok (.ret v)) s) :
    codeAny (model prog w) A (.call (.builtin "getset_descriptor.__get__") ⟨[.builtin "type.__name__", .ref C, tp], []⟩) R s := by
  obtain ⟨hp, g, dr, tk, os⟩ := s
  have isTy : Looks (model prog w) hp (typeOf (.ref C)) (.type "type") := looks_typeIn X tC
  have same : Looks (model prog w) hp (isSubtype (.type "type") (.type "type")) true := .of_pure (by rw [isSubtype_type]; kernel_rfl)
  refine codeAny_call_builtin KF.slot_gs.plain KF.entry_gs (KF.slot_gs.check _ _ _ _ _ _ _ _ ktyn_type (KF.args_gs _ _ _) ?_)
  unfold Builtin.«getset_descriptor.__get__» descrGet
  rw [show descrGetArgs ⟨[.builtin "type.__name__", .ref C, tp], []⟩ = pure (.builtin "type.__name__", some (.ref C), given tp) by kernel_rfl]
  refine wpAny_bind (wpAny_pure ?_); unfold descrGetter descrCheckInstance descrNameAndClass isInstance
  simp only [ktyn_owner]; repeat lk
  refine ⟨Code.quiet_builtin _ (by decide +kernel), codeAny_builtin ktyn_entry ?_⟩
  unfold Builtin.«type.__name__» keptObject slotAt; dsimp only
  refine wpAny_bind (wpAny_bind (wpAny_loadPart_at (X _ _ ho) (wpAny_pure ?_))); rw [hs]
  exact wpAny_pure h
theorem name_of_class {v : Value} {o : Obj} {ex : Bool} {Q : Value → Shared → Prop} (X : K.In s.heap) (hr : readsIn K C (.type "type") = true)
    (e : findCls K (.ref C) (.type "type") "__name__" = some (.get (.builtin "getset_descriptor.__get__") (.builtin "type.__name__") (.ref C) (.type "type")))
    (tC : typeIn K (.ref C) = some (.type "type")) (ho : K.lookup C = some o) (hs : o.slots[2]? = some (some v)) (hv : handedIn v = true) (h : Q v { s with toks := s.toks + 1 }) :
    wpAny (model prog w) A (getAttr (.ref C) "__name__" ex) Q E s := cls_bind X hr e (wpAny_call (kept_name (s := { s with toks := s.toks + 1 }) X tC ho hs (handed_on hv h)))
/-- what the written part says of an own error class -/
structure Own (K : Frag) (D : Addr) : Prop where
  cl : (clsIn K D).isSome = true
  ga : findIn K (.ref D) "__getattribute__" = some (some (.builtin "BaseException.__getattribute__"))
  gt : findIn K (.ref D) "__getattr__" = some none
  sub : subIn K (.ref D) (.type "BaseException") = some true
  at_ : findIn K (.ref D) "__class__" = some (some (.builtin "object.__class__"))
  sp : specialIn K (.builtin "object.__class__") "__get__" = some (some (.builtin "getset_descriptor.__get__"))
  tk : takesIn K (.builtin "object.__class__") = some true
  mro : mroIn K D (.type "object") = some true
theorem class_of_error {x D : Addr} {ox : Obj} {od : Option Obj} {ex : Bool} {Q : Value → Shared → Prop} (T : Own K D) (X : K.In s.heap) (I : InstAt s.heap x ox D od) (h : Q (.ref D) { s with toks := s.toks + 1 }) :
    wpAny (model prog w) A (getAttr (.ref x) "__class__" ex) Q E s := by
  have hf : findObj K D od "__class__" = some (.bind (.builtin "getset_descriptor.__get__") (.builtin "object.__class__")) := findObj_dataE T.cl T.at_ T.sp T.tk
  obtain ⟨hp, g, d, t, os⟩ := s
  have l0 := I.type (M := model prog w); have l1 := looks_findIn (M := model prog w) X T.ga
  have l2 := looks_findIn (M := model prog w) X T.gt; have l3 := looks_find (M := model prog w) X I hf
  have isE : Looks (model prog w) hp (isInstance (.ref x) (.type "BaseException")) true := l0.andThen (looks_subIn X T.sub)
  have n2 : (Value.builtin "BaseException.__getattribute__" == Value.builtin "object.__getattribute__") = false := by decide +kernel
  unfold getAttr getAttrBy
  refine wpAny_bind (wpAny_mkText (wpAny_holding (wpAny_bind (l0.at (wpAny_bind (l1.at ?_))))))
  show wpAny _ _ (if (onTheHeap (Value.ref D) && Value.builtin "BaseException.__getattribute__" == Value.builtin "object.__getattribute__") = true then _ else _) _ _ _; rw [n2, Bool.and_false, if_neg Bool.false_ne_true]
  unfold getAttrByItsOwn hookBefore; refine wpAny_bind ?_; rw [if_pos (show onTheHeap (Value.ref D) = true from rfl)]
  refine l2.at (wpAny_bind (wpAny_attempt (wpAny_holding ?_)))
  unfold callGetattribute boundAndCalled; rw [show (ex && onTheHeap (Value.builtin "BaseException.__getattribute__")) = false by cases ex <;> rfl, if_neg Bool.false_ne_true, PySem.F.excAttr_ValueError.ga.bind (.ref x)]
  refine wpAny_bind (wpAny_pure ?_); show wpAny _ _ (call (.builtin "BaseException.__getattribute__") [.ref x, .str "__class__" t]) _ _ _
  refine wpAny_call (codeAny_call_builtin PySem.F.excAttr_ValueError.ga.plain PySem.F.entry_bexc_ga (@PySem.W.check_slot (model prog w) _ _ ⟨hp, g, d, t + 1, os⟩ "BaseException.__getattribute__" "BaseException" "__getattribute__" (.ref x) [.str "__class__" t] [] _ (by decide +kernel) (by decide +kernel) isE (PySem.F.args_bexc_ga (.ref x) (.str "__class__" t)) ?_))
  unfold Builtin.«object.__getattribute__»; refine wpAny_bind (wpAny_of_eq (a := ((Value.ref x : Value), [Value.str "__class__" t])) (by first | rfl | (simp only [slotArgs]; rfl)) ?_)
  refine wpAny_bind (wpAny_pure (wpAny_bind (l0.at (wpAny_bind (l3.at (wpAny_bind (wpAny_holding (wpAny_call (class_get (s := ⟨hp, g, d, t + 1, os⟩) (ox := ox) (od := od) X I T.mro ?_)))))))))
  refine wpAny_pure ?_; show wpAny _ _ (handedOut (.ref D)) _ _ _; rw [handedOut_of (v := .ref D) rfl]
  first | exact wpAny_pure h | exact wpAny_pure (wpAny_pure h)
end
end LX
namespace LX
open PySem PySem.Spec PyProof.Rows L2
/-- .. and of its kept name -/
structure Named (K : PySem.W.Frag) (D : Addr) (nm : Str) : Prop where
  own : Own K D
  rd : PySem.W.readsIn K D (.type "type") = true
  fc : PySem.W.findCls K (.ref D) (.type "type") "__name__" = some (.get (.builtin "getset_descriptor.__get__") (.builtin "type.__name__") (.ref D) (.type "type"))
  ty : PySem.W.typeIn K (.ref D) = some (.type "type")
  lk : ∃ (o : Obj) (t : Tok), K.lookup D = some o ∧ o.slots[2]? = some (some (.str nm t))
  sz : nm.length ≤ 1000
def tCn (K : PySem.W.Frag) (te : TE) : TE := fun σ H Q => te σ H fun x H1 => ∃ (a D : Addr) (nm : Str), x = .ref a ∧ H1 a = some (exo a D none) ∧ Named K D nm ∧ Q (.str nm) H1
/-- self.__class__.__name__ -/
theorem pe_cn {X : Cx} {e : Expr} {te : TE} {p1 p2 : Pos} (he : PE X e te) (hb : attributeBase e "__class__" X.env (eval e X.env) = eval e X.env := by rfl)
    (hb2 : attributeBase (.Attribute e "__class__" p1) "__name__" X.env (eval (.Attribute e "__class__" p1) X.env) = eval (.Attribute e "__class__" p1) X.env := by rfl) : PE X (.Attribute (.Attribute e "__class__" p1) "__name__" p2) (tCn X.K te) := by
  refine ⟨fun pins s σ H Q I h => attr_of hb2 (attr_of hb (thn (he.run pins s σ H _ I h) fun u s1 hh => ?_))⟩
  obtain ⟨x, H1, J, rx, a, D, nm, rfl, ea, T, q⟩ := hh
  obtain rfl : u = Value.ref a := rx
  obtain ⟨t1, hg⟩ := exo_at J.hok ea
  obtain ⟨o, tk, hlk, hsl⟩ := T.lk
  refine class_of_error (od := none) T.own J.kIn ⟨hg, rfl, rfl, True.intro⟩ ?_
  exact name_of_class (s := { s1 with toks := s1.toks + 1 }) J.kIn T.rd T.fc T.ty hlk hsl rfl ⟨.str nm, H1, (J.tok _).tok _, ⟨tk, rfl⟩, q⟩
/-- isinstance(e, c) of a caught error that has fields -/
def rIsD (K : PySem.W.Frag) (D a dd : Addr) : List V → Hp → VK → Prop := fun xs H Q => ∃ (c : V) (cv : Value) (b : Bool) (fs : List (Str × V)), xs = [.ref a, c] ∧ ClsV c cv ∧ H dd = some (.xd fs) ∧ PySem.W.kitOne K (.ref D) cv = some b ∧ Q (.bl b) H
theorem call_isD {X : Cx} {a D dd : Addr} {oe : Obj} {pn : List (Addr × Obj)} (T : Own X.K D) (hz : Zc (.ref D) (some dd) oe) (hf : ∃ vs, oe.data = .fields vs) : CallR (X.suite a ((a, oe) :: pn)) (.builtin "isinstance") (rIsD X.K D a dd) := by
  intro pins s σ H xs us Q I r h
  obtain ⟨c, cv, b, fs, rfl, hcv, hdd, e, q⟩ := h
  obtain ⟨u1, u2, rfl, r1, r2⟩ := vals2 r
  obtain rfl : u1 = Value.ref a := r1
  have ec := hcv.eq r2
  subst ec
  obtain ⟨hget, _⟩ := I.pin (a, oe) (List.mem_append_left _ List.mem_cons_self)
  obtain ⟨vs, hv⟩ := hf
  have hx : ObjOk X.prog X.w H s.heap dd (.xd fs) := I.hok dd _ hdd
  obtain ⟨mA, hns, _⟩ := hx
  obtain ⟨od, ho, _⟩ := lookIn_ns hns
  have J : PySem.W.InstAt s.heap a oe D (some od) := ⟨hget, hz.1, by unfold PySem.W.notCls; rw [hv] <;> rfl, by rw [hz.2]; exact ho⟩
  exact PySem.W.kia_one (PySem.W.kitx_exc T.cl T.ga T.gt T.sub T.at_ T.sp T.tk T.mro) I.kIn J e (fun z => nomatch z) fun tk => ⟨.bl b, H, I.tok tk, rfl, q⟩
end LX
-- EY
/-! further generic texts: // by a divisor of any sign, isinstance of a caught error whose class is told by the reading, the facts of an own error class that keeps a number -/
namespace LX
open PySem PySem.Spec PyProof.Rows L2
def CDivWN (_ j : Int) : Prop := j ≠ 0 ∧ j.natAbs.log2 < 9000
section
variable {X : Cx}
theorem op_fdivWN : OpR X (binaryOp .FloorDiv) (rI CDivWN fun i j => .int (i.fdiv j)) := opI fun _ _ _ _ _ _ _ hc q => floordiv_int hc.1 q (.inl (PyProof.noPylong_of_log2 hc.2))
end
def rIsX (K : PySem.W.Frag) (a : Addr) (cls : Value) (d : Option Addr) : List V → Hp → VK → Prop := fun xs H Q => ∃ (D dd : Addr) (c : V) (cv : Value) (b : Bool) (fs : List (Str × V)), cls = .ref D ∧ d = some dd ∧ Own K D ∧ xs = [.ref a, c] ∧ ClsV c cv ∧
  H dd = some (.xd fs) ∧ PySem.W.kitOne K (.ref D) cv = some b ∧ Q (.bl b) H
theorem call_isX {X : Cx} {a : Addr} {cls : Value} {d : Option Addr} {oe : Obj} {pn : List (Addr × Obj)} (hz : Zc cls d oe) (hf : ∃ vs, oe.data = .fields vs) : CallR (X.suite a ((a, oe) :: pn)) (.builtin "isinstance") (rIsX X.K a cls d) := by
  intro pins s σ H xs us Q I r h
  obtain ⟨D, dd, c, cv, b, fs, rfl, rfl, T, ex, hcv, hdd, e, q⟩ := h
  exact call_isD T hz hf pins s σ H xs us Q I r ⟨c, cv, b, fs, ex, hcv, hdd, e, q⟩
theorem text_len {i : Int} {k : Nat} (hk : 0 < k) (h : i.natAbs < 10 ^ k) : (Str.ofString (toString i)).length ≤ k + 1 := by
  have e := PySem.int_text_length_le10 hk h
  rw [PyProof.Rows.ofString_length]
  exact e
theorem bits_le {i : Int} {k : Nat} (h : i.natAbs < 2 ^ k) : Builtin.Int.intBits i ≤ k := PyProof.Rows.intBits_le h
/-- the base of the text's errors -/
structure Err0 (K : PySem.W.Frag) (mg : Str → Option Value) (st : Stmt) where
  CM : Addr
  f : Addr
  fd : FuncData
  F : Fun K "__init__" "ModelError.__init__" st f fd
  b : Binds K fd ["self", "at"] []
  tI : PySem.W.typeIn K (.ref f) = some (.type "function")
  gM : mg "ModelError" = some (.ref CM)
  mV : mg "ValueError" = none
  vV : PySem.W.findCls K (.type "ValueError") (.type "type") "__init__" = some (.val (.builtin "ValueError.__init__"))
/-- one of them -/
structure ErrC (K : PySem.W.Frag) (mg : Str → Option Value) (x : Str) (CM f : Addr) where
  C : Addr
  nm : Str
  named : Named K C nm
  oex : OexC K C
  noAt : PySem.W.findIn K (.ref C) "at" = some none
  iC : PySem.W.findIn K (.ref C) "__init__" = some (some (.ref f))
  g : mg x = some (.ref C)
  exm : PySem.W.exmOne K (.ref C) (.ref CM) = some true
  kit : PySem.W.kitOne K (.ref C) (.ref C) = some true
  xf : XfC K C
/-- an error of the class at C is taken by a clause for the class at S above it -/
theorem exm_is {K : PySem.W.Frag} {S C : Addr} (h1 : PySem.W.subIn K (.ref S) (.type "BaseException") = some true) (h2 : PySem.W.isClsIn K S = true) (h3 : PySem.W.typeIn K (.ref S) = some (.type "type")) (h4 : PySem.W.subIn K (.ref C) (.ref S) = some true) :
    PySem.W.exmOne K (.ref C) (.ref S) = some true := by
  have a : ((PySem.W.clsIn K S).isSome && PySem.W.typeIn K (.ref S) == some (.type "type")) = true := by
    rw [show (PySem.W.clsIn K S).isSome = true from h2, h3]; rfl
  unfold PySem.W.exmOne
  rw [h1, if_pos (by rfl)]
  show (if ((PySem.W.clsIn K S).isSome && PySem.W.typeIn K (.ref S) == some (.type "type")) = true then PySem.W.subIn K (.ref C) (.ref S) else none) = some true
  rw [if_pos a, h4]
theorem refs_one (c : Addr) : PySem.HandSPX.refsVE [.ref c, .type "ValueError", .type "Exception", .type "BaseException", .type "object"] = true := by
  show PySem.HandSPX.refsVE PySem.HandSPX.veTail = true
  decide +kernel
theorem kit_self (K : PySem.W.Frag) (C : Addr) : PySem.W.kitOne K (.ref C) (.ref C) = some true := by
  unfold PySem.W.kitOne
  rw [if_pos (by simp)]
/-- a and b as a value, where b changes nothing and its answer is known -/
def tAndP (ta tb : TE) : TE := fun σ H Q => ta σ H fun x H1 => ∃ c r, x = .bl c ∧ (c = true → ∀ Q' : VK, Q' (.bl r) H1 → tb σ H1 Q') ∧ Q (.bl (c && r)) H1
theorem pe_andP {X : Cx} {a b : Expr} {rest : List Expr} {ta tb : TE} {pos : Pos} (ha : PE X a ta) (hb : PE X (.BoolOp .And (b :: rest) pos) tb) : PE X (.BoolOp .And (a :: b :: rest) pos) (tAndP ta tb) := by
  refine ⟨fun pins s σ H Q I h => ?_⟩
  refine BoolOp_and (thn (ha.run pins s σ H _ I h) fun v s1 ⟨x, H1, I1, r1, q1⟩ => ?_)
  obtain ⟨c, r, rfl, hA, q⟩ := q1
  cases r1
  refine wpAny_truthy_bool ?_
  cases c with
  | true => exact hb.run pins s1 σ H1 Q I1 (hA rfl Q q)
  | false => exact ⟨.bl false, H1, I1, rfl, q⟩
/-- an error is let go that stood above H -/
theorem upd_back {H : Hp} {a d : Addr} {o1 o2 o3 x : HO} (ha : H a = none) (hd : d ≠ a) : upd (del (upd (upd (upd H a o1) d o2) a o3) a) d x = upd H d x := by
  funext b
  by_cases h1 : b = d
  · rw [h1, upd_same, upd_same]
  · rw [upd_ne h1, upd_ne h1]
    by_cases h2 : b = a
    · rw [h2, del_same, ha]
    · rw [del_ne h2, upd_ne h2, upd_ne h1, upd_ne h2]
/-- __init__ of the text's errors, at an error of the class C -/
def sp_init (K : PySem.W.Frag) : Sp := fun vs H Q _ => ∃ (e C : Addr) (nm : Str) (i : Int), vs = [.ref e, .int i] ∧ H e = some (exo e C none) ∧ Named K C nm ∧ OexC K C ∧ PySem.W.findIn K (.ref C) "at" = some none ∧ i.natAbs < 10 ^ 12 ∧
  ∀ d, H d = none → d ≠ e → Q .non (upd (upd H d (exd d [("at", .int i)])) e (exo e C (some d)))
/-- what a raise asks when the class's __init__ is as above -/
theorem raised {K : PySem.W.Frag} {mg : Str → Option Value} {x : Str} {CM f : Addr} (T : ErrC K mg x CM f) {H : Hp} {n : Int} {E : XK} (hn : n.natAbs < 10 ^ 12) (q : ∀ d, H d = none → E (.ref T.C) (some d) (upd H d (.xd [("at", .int n)]))) (a : Addr) (ha : H a = none) :
    sp_init K (.ref a :: ([.int n] ++ [])) (upd H a (exo a T.C none)) (fun v H2 => v = .non ∧ ∃ (d : Addr) (fs : List (Str × V)), H2 a = some (exo a T.C (some d)) ∧ H2 d = some (exd d fs) ∧ H d = none ∧ E (.ref T.C) (some d) (upd (del H2 a) d (.xd fs))) (fun _ _ _ => False) := by
  refine ⟨a, T.C, T.nm, n, rfl, upd_same, T.named, T.oex, T.noAt, hn, fun d hd ne => ⟨rfl, d, [("at", .int n)], upd_same, ?_, ?_, ?_⟩⟩
  · rw [upd_ne ne]; exact upd_same
  · rw [upd_ne ne] at hd; exact hd
  · rw [upd_ne ne] at hd
    rw [upd_back ha ne]
    exact q d hd
end LX
-- EZ
/-! the number that a caught error keeps, where the reading tells which class it has -/
namespace LX
open PySem PySem.Spec PyProof.Rows L2
def tXfA (K : PySem.W.Frag) (a : Addr) (cls : Value) (d : Option Addr) (n : Str) (te : TE) : TE := fun σ H Q => ∃ C : Addr, XfC K C ∧ PySem.W.findIn K (.ref C) n = some none ∧ tXf a cls d C n te σ H Q
theorem pe_xfA {X : Cx} {a : Addr} {oe : Obj} {cls : Value} {d : Option Addr} {pn : List (Addr × Obj)} {e : Expr} {te : TE} {pos : Pos} {n : Str}
    (hz : Zc cls d oe) (hf : ∃ vs, oe.data = .fields vs) (he : PE (X.suite a ((a, oe) :: pn)) e te) (hb : attributeBase e n X.env (eval e X.env) = eval e X.env := by rfl) :
    PE (X.suite a ((a, oe) :: pn)) (.Attribute e n pos) (tXfA X.K a cls d n te) :=
  ⟨fun pins s σ H Q I ⟨_, T, hno, h⟩ => (pe_xf T hno hz hf he hb).run pins s σ H Q I h⟩
end LX
namespace K50
open PySem PySem.Spec PyProof.Rows L2
-- B
def topS (i : Nat) : Stmt := PySem.Challenge.pw_unsaidsizes_k50_tight_numbers_and_places.main.body.getD i (.Pass ⟨0, 0, 0, 0⟩)
abbrev s_wording : Stmt := topS 2
theorem sc_wording : FnScope ["name", "at"] ["name", "at"] (defScope s_wording) := ⟨rfl, rfl, rfl, by decide +kernel, rfl, by decide +kernel, by decide +kernel⟩
abbrev s_is_exact : Stmt := topS 10
theorem sc_is_exact : FnScope ["told"] ["told"] (defScope s_is_exact) := ⟨rfl, rfl, rfl, by decide +kernel, rfl, by decide +kernel, by decide +kernel⟩
abbrev s_power_of : Stmt := topS 12
theorem sc_power_of : FnScope ["told", "j", "kind", "row"] ["told", "j"] (defScope s_power_of) := ⟨rfl, rfl, rfl, by decide +kernel, rfl, by decide +kernel, by decide +kernel⟩
abbrev s_powers_of : Stmt := topS 13
theorem sc_powers_of : FnScope ["grid", "told", "j"] ["grid"] (defScope s_powers_of) := ⟨rfl, rfl, rfl, by decide +kernel, rfl, by decide +kernel, by decide +kernel⟩
abbrev s_tight_columns : Stmt := topS 22
theorem sc_tight_columns : FnScope ["told", "mark", "q", "found", "j", "bound", "power"] ["told", "mark", "q"] (defScope s_tight_columns) := ⟨rfl, rfl, rfl, by decide +kernel, rfl, by decide +kernel, by decide +kernel⟩
abbrev s_tight_frame : Stmt := topS 23
theorem sc_tight_frame : FnScope ["grid", "p", "q", "rows", "touched", "i", "told", "columns", "j"] ["grid", "p", "q"] (defScope s_tight_frame) := ⟨rfl, rfl, rfl, by decide +kernel, rfl, by decide +kernel, by decide +kernel⟩
abbrev s_is_marks : Stmt := topS 25
theorem sc_is_marks : FnScope ["grid", "p", "q", "many", "row", "i"] ["grid", "p", "q"] (defScope s_is_marks) := ⟨rfl, rfl, rfl, by decide +kernel, rfl, by decide +kernel, by decide +kernel⟩
abbrev s_need_marks : Stmt := topS 26
theorem sc_need_marks : FnScope ["grid", "p", "q"] ["grid", "p", "q"] (defScope s_need_marks) := ⟨rfl, rfl, rfl, by decide +kernel, rfl, by decide +kernel, by decide +kernel⟩
abbrev s_tight_numbers : Stmt := topS 27
theorem sc_tight_numbers : FnScope ["grid", "p", "q", "frame", "i"] ["grid", "p", "q"] (defScope s_tight_numbers) := ⟨rfl, rfl, rfl, by decide +kernel, rfl, by decide +kernel, by decide +kernel⟩
abbrev s_tight_places : Stmt := topS 28
theorem sc_tight_places : FnScope ["grid", "p", "q", "frame", "i"] ["grid", "p", "q"] (defScope s_tight_places) := ⟨rfl, rfl, rfl, by decide +kernel, rfl, by decide +kernel, by decide +kernel⟩
abbrev s_law_draws : Stmt := topS 30
theorem sc_law_draws : FnScope ["script", "draws", "k", "rest", "turn", "mixed"] ["script"] (defScope s_law_draws) := ⟨rfl, rfl, rfl, by decide +kernel, rfl, by decide +kernel, by decide +kernel⟩
abbrev s_law_mix : Stmt := topS 31
theorem sc_law_mix : FnScope ["draws", "k", "many", "value"] ["draws", "k", "many"] (defScope s_law_mix) := ⟨rfl, rfl, rfl, by decide +kernel, rfl, by decide +kernel, by decide +kernel⟩
abbrev s_law_trimmed : Stmt := topS 32
theorem sc_law_trimmed : FnScope ["numbers", "size", "turn"] ["numbers"] (defScope s_law_trimmed) := ⟨rfl, rfl, rfl, by decide +kernel, rfl, by decide +kernel, by decide +kernel⟩
abbrev s_law_number : Stmt := topS 33
theorem sc_law_number : FnScope ["draws", "k", "great", "menu"] ["draws", "k"] (defScope s_law_number) := ⟨rfl, rfl, rfl, by decide +kernel, rfl, by decide +kernel, by decide +kernel⟩
abbrev s_law_element : Stmt := topS 34
theorem sc_law_element : FnScope ["draws", "k", "shares", "out", "at"] ["draws", "k", "shares"] (defScope s_law_element) := ⟨rfl, rfl, rfl, by decide +kernel, rfl, by decide +kernel, by decide +kernel⟩
abbrev s_law_likely : Stmt := topS 35
theorem sc_law_likely : FnScope ["draws", "k", "row", "scale", "shift", "out", "turn", "j", "element", "number", "n"] ["draws", "k", "row"] (defScope s_law_likely) := ⟨rfl, rfl, rfl, by decide +kernel, rfl, by decide +kernel, by decide +kernel⟩
abbrev s_law_orders : Stmt := topS 36
theorem sc_law_orders : FnScope ["draws", "k", "shares", "chosen", "order"] ["draws", "k", "shares"] (defScope s_law_orders) := ⟨rfl, rfl, rfl, by decide +kernel, rfl, by decide +kernel, by decide +kernel⟩
abbrev s_law_grid : Stmt := topS 37
theorem sc_law_grid : FnScope ["draws", "k", "many", "grid", "exact", "share", "i", "at", "row", "j"] ["draws", "k", "many"] (defScope s_law_grid) := ⟨rfl, rfl, rfl, by decide +kernel, rfl, by decide +kernel, by decide +kernel⟩
abbrev s_law_is_integer : Stmt := topS 38
theorem sc_law_is_integer : FnScope ["actual"] ["actual"] (defScope s_law_is_integer) := ⟨rfl, rfl, rfl, by decide +kernel, rfl, by decide +kernel, by decide +kernel⟩
abbrev s_law_power : Stmt := topS 39
theorem sc_law_power : FnScope ["kind", "element"] ["kind", "element"] (defScope s_law_power) := ⟨rfl, rfl, rfl, by decide +kernel, rfl, by decide +kernel, by decide +kernel⟩
abbrev s_law_is_tight : Stmt := topS 40
theorem sc_law_is_tight : FnScope ["grid", "p", "q", "i", "j", "kind", "row"] ["grid", "p", "q", "i", "j"] (defScope s_law_is_tight) := ⟨rfl, rfl, rfl, by decide +kernel, rfl, by decide +kernel, by decide +kernel⟩
abbrev s_law_refused : Stmt := topS 41
theorem sc_law_refused : FnScope ["way", "grid", "p", "q", "e"] ["way", "grid", "p", "q"] (defScope s_law_refused) := ⟨rfl, rfl, rfl, by decide +kernel, rfl, by decide +kernel, by decide +kernel⟩
abbrev s_law_marks : Stmt := topS 42
theorem sc_law_marks : FnScope ["draws", "grid", "many", "p", "q", "j", "needs", "i"] ["draws", "grid"] (defScope s_law_marks) := ⟨rfl, rfl, rfl, by decide +kernel, rfl, by decide +kernel, by decide +kernel⟩
abbrev s_law_bad : Stmt := topS 43
theorem sc_law_bad : FnScope ["draws", "grid", "p", "q", "bad", "j", "needs", "one", "two", "way", "i"] ["draws", "grid", "p", "q"] (defScope s_law_bad) := ⟨rfl, rfl, rfl, by decide +kernel, rfl, by decide +kernel, by decide +kernel⟩
abbrev s_law : Stmt := topS 44
theorem sc_law : FnScope ["script", "draws", "grid", "many", "p", "q", "kept", "numbers", "places", "i", "kind", "row", "first", "second", "j", "item"] ["script"] (defScope s_law) := ⟨rfl, rfl, rfl, by decide +kernel, rfl, by decide +kernel, by decide +kernel⟩
/-- a def as it stands behind the top -/
structure Def (K : PySem.W.Frag) (mg : Str → Option Value) (x : Str) (st : Stmt) (ps : List Str) where
  a : Addr
  fd : FuncData
  F : Fun K x x st a fd
  b : Binds K fd ps []
  g : mg x = some (.ref a)
/-- a def that holds generator expressions: its code object is known -/
structure DefT (K : PySem.W.Frag) (mg : Str → Option Value) (x : Str) (st : Stmt) (ps : List Str) where
  a : Addr
  c : Addr
  fd : FuncData
  ex : ∃ (oc : Value) (od : Option Addr) (dV kV doc pm : Value) (an : Option Addr) (ct : Value) (osl : Array (Option Value)), fd = PySem.W.fnOf x x (defArgs st) (defBody st) (defScope st) dV kV doc pm an (.ref c) ct ∧ K.lookup a = some ⟨oc, od, .func fd, osl⟩ ∧ PySem.W.codeIn K (.ref c) x = true
  kp : PySem.W.keepIn K (.ref a) = true
  b : Binds K fd ps []
  g : mg x = some (.ref a)
theorem DefT.ok {P : Program} {w : World} {K : PySem.W.Frag} {mg : Str → Option Value} {base : Heap} {x : Str} {st : Stmt} {N ps : List Str} {k : Nat} {sp : Sp} (T : DefT K mg x st ps) (S : FnScope N ps (defScope st)) (len : ∀ vs H Q E, sp vs H Q E → vs.length = ps.length)
    (hbody : ∀ (A : Around) (outer : List Env) (s : Shared) (H : Hp) (vs : List V) (Q : VK) (E : XK), Room k (A.deeper (envOfC x (defScope st) s.heap.objs.size T.a (.ref T.c))) → sp vs H Q E →
      ∃ t, PSs (cxOf CX0 P w K mg base N x (defScope st) T.a (.ref T.c) A outer s H E).nox (defBody st) t ∧ t { nx := fun _ H' => Q .non H', rt := Q } (L2.start N vs) H) : FnOk P w K mg base CX0 (k + 1) T.a T.fd ps sp := by
  obtain ⟨a, c, fd, ⟨oc, od, dV, kV, doc, pm, an, ct, osl, rfl, lk, hcd⟩, kp, b, g⟩ := T
  refine fn_of lk hcd S len fun A outer s H vs Q E hr hsp => ?_
  obtain ⟨t, h, q⟩ := hbody A outer s H vs Q E hr hsp
  exact ⟨t, h.nox, q⟩
structure Txt (K : PySem.W.Frag) (mg : Str → Option Value) where
  wording : Def K mg "_wording" s_wording ["name", "at"]
  is_exact : Def K mg "is_exact" s_is_exact ["told"]
  power_of : Def K mg "power_of" s_power_of ["told", "j"]
  powers_of : Def K mg "powers_of" s_powers_of ["grid"]
  tight_columns : Def K mg "_tight_columns" s_tight_columns ["told", "mark", "q"]
  tight_frame : Def K mg "tight_frame" s_tight_frame ["grid", "p", "q"]
  is_marks : DefT K mg "is_marks" s_is_marks ["grid", "p", "q"]
  need_marks : Def K mg "_need_marks" s_need_marks ["grid", "p", "q"]
  tight_numbers : Def K mg "tight_numbers" s_tight_numbers ["grid", "p", "q"]
  tight_places : Def K mg "tight_places" s_tight_places ["grid", "p", "q"]
  law_draws : Def K mg "_law_draws" s_law_draws ["script"]
  law_mix : Def K mg "_law_mix" s_law_mix ["draws", "k", "many"]
  law_trimmed : Def K mg "_law_trimmed" s_law_trimmed ["numbers"]
  law_number : Def K mg "_law_number" s_law_number ["draws", "k"]
  law_element : Def K mg "_law_element" s_law_element ["draws", "k", "shares"]
  law_likely : Def K mg "_law_likely" s_law_likely ["draws", "k", "row"]
  law_orders : Def K mg "_law_orders" s_law_orders ["draws", "k", "shares"]
  law_grid : Def K mg "_law_grid" s_law_grid ["draws", "k", "many"]
  law_is_integer : Def K mg "_law_is_integer" s_law_is_integer ["actual"]
  law_power : Def K mg "_law_power" s_law_power ["kind", "element"]
  law_is_tight : Def K mg "_law_is_tight" s_law_is_tight ["grid", "p", "q", "i", "j"]
  law_refused : Def K mg "_law_refused" s_law_refused ["way", "grid", "p", "q"]
  law_marks : Def K mg "_law_marks" s_law_marks ["draws", "grid"]
  law_bad : Def K mg "_law_bad" s_law_bad ["draws", "grid", "p", "q"]
  law : Def K mg "law" s_law ["script"]
  m_abs : mg "abs" = none
  m_any : mg "any" = none
  m_bool : mg "bool" = none
  m_enumerate : mg "enumerate" = none
  m_int : mg "int" = none
  m_isinstance : mg "isinstance" = none
  m_len : mg "len" = none
  m_list : mg "list" = none
  m_max : mg "max" = none
  m_min : mg "min" = none
  m_range : mg "range" = none
  m_repr : mg "repr" = none
  m_set : mg "set" = none
  m_sorted : mg "sorted" = none
  m_sum : mg "sum" = none
/-! ### the errors of the text, its class -/
abbrev s_init : Stmt := inClass (topS 3) 0
theorem sc_init : FnScope ["self", "at"] ["self", "at"] (defScope s_init) := ⟨rfl, rfl, rfl, by decide +kernel, rfl, by decide +kernel, by decide +kernel⟩
structure Errs (K : PySem.W.Frag) (mg : Str → Option Value) where
  e0 : LX.Err0 K mg s_init
  NotMarks : LX.ErrC K mg "NotMarks" e0.CM e0.f
abbrev s_frame : Stmt := inClass (topS 20) 0
theorem sc_frame : FnScope ["self", "many", "rows", "touched", "bits"] ["self", "many", "rows", "touched", "bits"] (defScope s_frame) := ⟨rfl, rfl, rfl, by decide +kernel, rfl, by decide +kernel, by decide +kernel⟩
structure Frm (K : PySem.W.Frag) (mg : Str → Option Value) where
  C : Addr
  f : Addr
  fd : FuncData
  F : Fun K "__init__" "Frame.__init__" s_frame f fd
  b : Binds K fd ["self", "many", "rows", "touched", "bits"] []
  M : Mk K C f
  cl : Cls K C
  n_many : NoAttr K C "many"
  n_rows : NoAttr K C "rows"
  n_touched : NoAttr K C "touched"
  n_bits : NoAttr K C "bits"
  n_exact : NoAttr K C "exact"
  n_sized : NoAttr K C "sized"
  g : mg "Frame" = some (.ref C)
/-! ### words -/
theorem same_upd {H : Hp} {p : Addr} {o : HO} (h : H p = none) : Same H (upd H p o) := fun b x e => by
  rw [upd_ne (ne_of_none e h)]
  exact e
theorem same_over {H H' : Hp} {p : Addr} {o : HO} (s : Same H H') (h : H p = none) : Same H (upd H' p o) := fun b x e => by
  rw [upd_ne (ne_of_none e h)]
  exact s _ _ e
theorem Same.seqT {K : PySem.W.Frag} {H H' : Hp} {a : Addr} {xs : List V} (e : Same H H') (h : SqT K H a xs) : SqT K H' a xs := by
  rcases h with (h | ⟨o, h⟩) | h
  · exact .inl (.inl (e _ _ h))
  · exact .inl (.inr ⟨o, e _ _ h⟩)
  · exact .inr h
/-- two lists in step -/
inductive A2 {α β : Type} (R : α → β → Prop) : List α → List β → Prop
  | nil : A2 R [] []
  | cons {a b as bs} : R a b → A2 R as bs → A2 R (a :: as) (b :: bs)
namespace A2
variable {α β γ : Type} {R S : α → β → Prop} {as : List α} {bs : List β}
theorem mono (f : ∀ a b, R a b → S a b) : ∀ {as : List α} {bs : List β}, A2 R as bs → A2 S as bs
  | _, _, .nil => .nil
  | _, _, .cons h t => .cons (f _ _ h) (mono f t)
theorem len : ∀ {as : List α} {bs : List β}, A2 R as bs → as.length = bs.length
  | _, _, .nil => rfl
  | _, _, .cons _ t => by rw [List.length_cons, List.length_cons, len t]
theorem get : ∀ {as : List α} {bs : List β}, A2 R as bs → ∀ {i : Nat} {a : α}, as[i]? = some a → ∃ b, bs[i]? = some b ∧ R a b
  | _, _, .nil, i, a, h => by simp at h
  | _, _, .cons h t, 0, a, e => by simp at e; subst e; exact ⟨_, rfl, h⟩
  | _, _, .cons h t, i + 1, a, e => get t (i := i) (by simpa using e)
theorem get' : ∀ {as : List α} {bs : List β}, A2 R as bs → ∀ {i : Nat} {b : β}, bs[i]? = some b → ∃ a, as[i]? = some a ∧ R a b
  | _, _, .nil, i, a, h => by simp at h
  | _, _, .cons h t, 0, a, e => by simp at e; subst e; exact ⟨_, rfl, h⟩
  | _, _, .cons h t, i + 1, a, e => get' t (i := i) (by simpa using e)
theorem snoc {a : α} {b : β} (h : R a b) : ∀ {as : List α} {bs : List β}, A2 R as bs → A2 R (as ++ [a]) (bs ++ [b])
  | _, _, .nil => .cons h .nil
  | _, _, .cons x t => .cons x (snoc h t)
theorem set {a : α} {b : β} (h : R a b) : ∀ {as : List α} {bs : List β}, A2 R as bs → ∀ i : Nat, A2 R (as.set i a) (bs.set i b)
  | _, _, .nil, _ => .nil
  | _, _, .cons _ t, 0 => .cons h t
  | _, _, .cons x t, i + 1 => .cons x (set h t i)
end A2
theorem take_snoc {α : Type} {xs : List α} {i : Nat} {x : α} (h : xs[i]? = some x) : xs.take (i + 1) = xs.take i ++ [x] := by
  rw [List.take_add_one, h]; rfl
theorem a2_eq {α : Type} {f : α → V} : ∀ {ys : List V} {xs : List α}, A2 (fun v x => v = f x) ys xs → ys = xs.map f
  | _, _, .nil => rfl
  | _, _, .cons h t => by rw [h, a2_eq t]; rfl
theorem a2_ref {α : Type} {R : Addr → α → Prop} : ∀ {ys : List V} {xs : List α}, A2 (fun v x => ∃ a, v = .ref a ∧ R a x) ys xs → ∃ as : List Addr, ys = as.map V.ref ∧ A2 R as xs
  | _, _, .nil => ⟨[], rfl, .nil⟩
  | _, _, .cons ⟨a, e, h⟩ t => by
    obtain ⟨as, rfl, r⟩ := a2_ref t
    exact ⟨a :: as, by rw [e]; rfl, .cons h r⟩
theorem fm_some {α β : Type} (f : α → β) (xs : List α) : xs.filterMap (fun x => some (f x)) = xs.map f := by
  induction xs with
  | nil => rfl
  | cons x r ih =>
    rw [List.filterMap_cons]
    show f x :: _ = _
    rw [ih]; rfl
theorem some_at {α : Type} {xs : List α} {i : Nat} (h : i < xs.length) : ∃ x, xs[i]? = some x := ⟨_, List.getElem?_eq_getElem h⟩
theorem mem_at {α : Type} {xs : List α} {i : Nat} {x : α} (h : xs[i]? = some x) : x ∈ xs := List.mem_of_getElem? h
/-- a list of ints stands at a -/
def IL (H : Hp) (a : Addr) (ns : List Int) : Prop := H a = some (.lst (ns.map V.int))
theorem IL.sq {K : PySem.W.Frag} {H : Hp} {a : Addr} {ns : List Int} (h : IL H a ns) : SqL K H a (ns.map V.int) := SqL.of h
theorem IL.same {H H' : Hp} {a : Addr} {ns : List Int} (h : IL H a ns) (s : Same H H') : IL H' a ns := s _ _ h
theorem il_upd {H : Hp} {p : Addr} {ns : List Int} : IL (upd H p (.lst (ns.map V.int))) p ns := upd_same
theorem app_ints {ds : List Int} {x : Int} : ds.map V.int ++ [V.int x] = (ds ++ [x]).map V.int := by rw [List.map_append]; rfl
theorem small {n : Nat} (h : n ≤ 60000) : n ≤ sizeLine := Nat.le_trans h (by decide)
theorem small' {n : Nat} (h : n < 60000) : n < sizeLine := Nat.lt_of_lt_of_le h (by decide)
def cf (ns : List Int) (m : Nat) : Int := ns.getD m 0
theorem at_map {ns : List Int} {m : Nat} (h : m < ns.length) : ns[m]? = some (cf ns m) := by unfold cf; rw [List.getD_eq_getElem?_getD, List.getElem?_eq_getElem h]; rfl
theorem at_map' {ns : List Int} {i : Int} {m : Nat} (e : i = (m : Int)) (h : m < ns.length) : atI (ns.map V.int) i = some (V.int (cf ns m)) := by
  rw [e]
  refine atI_nat ?_
  rw [List.getElem?_map, at_map h]; rfl
/-- all but D stand as they stood -/
def SameX (D : Addr) (H H' : Hp) : Prop := ∀ c o, c ≠ D → H c = some o → H' c = some o
theorem sx {D : Addr} {H H' : Hp} (s : Same H H') : SameX D H H' := fun c o _ h => s c o h
theorem SameX.trans {D : Addr} {H H1 H2 : Hp} (a : SameX D H H1) (b : SameX D H1 H2) : SameX D H H2 := fun c o n h => b c o n (a c o n h)
theorem SameX.put {D : Addr} {H : Hp} {o : HO} : SameX D H (upd H D o) := fun c x n h => by
  rw [upd_ne n]; exact h
section
variable {J : It} {n : Nat} {G : Hp → Prop} {Y : Nat → Hp → V → Hp → Prop} {g : TG} {tt : TT} {te : TE} {vs : List Nat} {σ : L2.St} {H1 : Hp} {D : Addr} {Qd : Hp → Prop}
/-- what a comprehension wants of its turns -/
abbrev LcW (J : It) (g : TG) (tt : TT) (te : TE) (vs : List Nat) (σ : L2.St) (H1 : Hp) (D : Addr) (Qd : Hp → Prop) : Prop :=
  ∃ W : Nat → Nat → Hp → Prop, (∃ m, W 0 m (upd H1 D (.lst []))) ∧ ∀ i m H, W i m H →
      (J.stop i H ∧ Qd H) ∨ (J.go i H ∧ ∃ Nx : Hp → Prop, (∀ H', Nx H' → ∃ m', m' < m ∧ W (i + 1) m' H') ∧ ∀ x H', J.yld i H x H' → g x (wipe σ vs) H' fun σ2 H2 => wipe σ2 vs = wipe σ vs ∧ tt σ2 H2 fun b H3 =>
        if b = true then te σ2 H3 fun y H4 => ∃ acc, H4 D = some (.lst acc) ∧ acc.length < sizeLine ∧ Nx (upd H4 D (.lst (acc ++ [y]))) else Nx H3)
theorem lc_inv (w : Walk J n G Y) (R : Nat → Hp → List V → Prop) (nD : H1 D = none) (hG : ∀ H', Same H1 H' → G H') (hl : n < sizeLine) (h0 : R 0 (upd H1 D (.lst [])) [])
    (hs : ∀ i x H Hx ys, i < n → Same H1 H → H D = some (.lst ys) → R i H ys → Y i H x Hx → ∀ (Qt : VK) (Qf : Hp → Prop), (∀ y H4, Same H H4 → R (i + 1) (upd H4 D (.lst (ys ++ [y]))) (ys ++ [y]) → Qt y H4) →
      (∀ H3, Same H H3 → R (i + 1) H3 ys → Qf H3) → g x (wipe σ vs) Hx fun σ2 H2 => wipe σ2 vs = wipe σ vs ∧ tt σ2 H2 fun b H3 => if b = true then te σ2 H3 Qt else Qf H3)
    (hd : ∀ H ys, Same H1 H → H D = some (.lst ys) → R n H ys → Qd H) : LcW J g tt te vs σ H1 D Qd := by
  refine lc_it w (fun i H => Same H1 H ∧ ∃ ys, ys.length ≤ i ∧ H D = some (.lst ys) ∧ R i H ys) ⟨same_upd nD, [], Nat.le_refl _, upd_same, h0⟩ (fun i H _ p => hG H p.1) (fun i x H Hx hi p y => ?_) (fun H p => ?_)
  · obtain ⟨sm, ys, hn, hD, hR⟩ := p
    refine hs i x H Hx ys hi sm hD hR y (fun y H4 => ∃ acc, H4 D = some (.lst acc) ∧ acc.length < sizeLine ∧ Same H1 (upd H4 D (.lst (acc ++ [y]))) ∧ ∃ zs, zs.length ≤ i + 1 ∧ upd H4 D (.lst (acc ++ [y])) D = some (.lst zs) ∧ R (i + 1) (upd H4 D (.lst (acc ++ [y]))) zs) _ (fun y H4 s4 r => ?_) (fun H3 s3 r => ?_)
    · exact ⟨ys, s4 _ _ hD, by omega, same_over (sm.trans s4) nD, ys ++ [y], by rw [List.length_append]; exact Nat.succ_le_succ hn, upd_same, r⟩
    · exact ⟨sm.trans s3, ys, by omega, s3 _ _ hD, r⟩
  · obtain ⟨sm, ys, _, hD, hR⟩ := p
    exact hd H ys sm hD hR
/-- item by item -/
theorem lc_fm {α β : Type} (w : Walk J n G Y) (ls : List α) (f : α → Option β) (rel : Hp → V → β → Prop) (mono : ∀ H H' v b, SameX D H H' → rel H v b → rel H' v b) (hn : ls.length = n) (nD : H1 D = none)
    (hG : ∀ H', Same H1 H' → G H') (hl : n < sizeLine)
    (hs : ∀ i x H Hx ys l, ls[i]? = some l → Same H1 H → H D = some (.lst ys) → Y i H x Hx → ∀ (Qt : VK) (Qf : Hp → Prop), (∀ y H4 b, f l = some b → Same H H4 → rel H4 y b → Qt y H4) →
      (f l = none → ∀ H3, Same H H3 → Qf H3) → g x (wipe σ vs) Hx fun σ2 H2 => wipe σ2 vs = wipe σ vs ∧ tt σ2 H2 fun b H3 => if b = true then te σ2 H3 Qt else Qf H3)
    (hd : ∀ H ys, Same H1 H → H D = some (.lst ys) → A2 (rel H) ys (ls.filterMap f) → Qd H) : LcW J g tt te vs σ H1 D Qd := by
  refine lc_inv w (fun i H ys => A2 (rel H) ys ((ls.take i).filterMap f)) nD hG hl .nil (fun i x H Hx ys hi sm hD hR y Qt Qf qt qf => ?_) (fun H ys sm hD hR => ?_)
  · obtain ⟨l, hl⟩ : ∃ l, ls[i]? = some l := ⟨ls[i]'(by omega), by simp [show i < ls.length by omega]⟩
    refine hs i x H Hx ys l hl sm hD y Qt Qf (fun y H4 b hb s4 r => ?_) (fun hb H3 s3 => ?_)
    · refine qt y H4 s4 ?_
      rw [take_snoc hl, List.filterMap_append]
      show A2 _ _ (_ ++ List.filterMap f [l])
      rw [show List.filterMap f [l] = [b] by simp [hb]]
      exact A2.snoc (mono _ _ _ _ SameX.put r) (hR.mono fun _ _ z => mono _ _ _ _ ((sx s4).trans SameX.put) z)
    · refine qf H3 s3 ?_
      rw [take_snoc hl, List.filterMap_append]
      show A2 _ _ (_ ++ List.filterMap f [l])
      rw [show List.filterMap f [l] = [] by simp [hb], List.append_nil]
      exact hR.mono fun _ _ z => mono _ _ _ _ (sx s3) z
  · rw [List.take_of_length_le (by omega)] at hR
    exact hd H ys sm hD hR
/-- new things, one a turn, each with something known of it -/
theorem lc_new {β : Type} (w : Walk J n G Y) (rel : Hp → Addr → β → Prop) (mono : ∀ H H' v b, SameX D H H' → rel H v b → rel H' v b) (ok : Nat → β → Prop) (nD : H1 D = none) (hG : ∀ H', Same H1 H' → G H') (hl : n < sizeLine)
    (hs : ∀ i x H Hx, i < n → Same H1 H → H D ≠ none → Y i H x Hx → ∀ Qt : VK, (∀ y b H4, Same H H4 → rel H4 y b → ok i b → Qt (.ref y) H4) → g x (wipe σ vs) Hx fun σ2 H2 => wipe σ2 vs = wipe σ vs ∧ tt σ2 H2 fun b H3 => b = true ∧ te σ2 H3 Qt)
    (hd : ∀ H as bs, Same H1 H → H D = some (.lst (as.map V.ref)) → A2 (rel H) as bs → bs.length = n → (∀ i b, bs[i]? = some b → ok i b) → Qd H)
    (gm : ∀ {x σ' H' Q1 Q2}, (∀ a b, Q1 a b → Q2 a b) → g x σ' H' Q1 → g x σ' H' Q2) (tm : ∀ {σ' H' Q1 Q2}, (∀ a b, Q1 a b → Q2 a b) → tt σ' H' Q1 → tt σ' H' Q2) : LcW J g tt te vs σ H1 D Qd := by
  refine lc_inv w (fun i H ys => ∃ (as : List Addr) (bs : List β), ys = as.map V.ref ∧ A2 (rel H) as bs ∧ bs.length = i ∧ ∀ j b, bs[j]? = some b → ok j b) nD hG hl ⟨[], [], rfl, .nil, rfl, fun j b z => by simp at z⟩ (fun i x H Hx ys hi sm hD hR y Qt Qf qt qf => ?_) (fun H ys sm hD hR => ?_)
  · obtain ⟨as, bs, rfl, ha, hb, hk⟩ := hR
    refine gm (fun σ2 H2 z => ⟨z.1, tm (fun c H3 z2 => ?_) z.2⟩) (hs i x H Hx hi sm (by rw [hD]; exact fun z => nomatch z) y Qt fun y b H4 s4 r o => ?_)
    · rw [if_pos z2.1]
      exact z2.2
    · refine qt _ _ s4 ⟨as ++ [y], bs ++ [b], by rw [List.map_append]; rfl, A2.snoc (mono _ _ _ _ SameX.put r) (ha.mono fun _ _ z => mono _ _ _ _ ((sx s4).trans SameX.put) z), by rw [List.length_append, hb]; rfl, fun j c z => ?_⟩
      rcases Nat.lt_or_ge j bs.length with lt | ge
      · rw [List.getElem?_append_left lt] at z
        exact hk j c z
      · rw [List.getElem?_append_right ge] at z
        have e : j - bs.length = 0 := by
          rcases Nat.eq_zero_or_pos (j - bs.length) with e | e
          · exact e
          · rw [List.getElem?_eq_none (by show 1 ≤ _; omega)] at z
            cases z
        rw [e] at z
        cases z
        have : j = i := by omega
        rw [this]
        exact o
  · obtain ⟨as, bs, rfl, ha, hb, hk⟩ := hR
    exact hd H as bs sm hD ha hb hk
end
def rLenS (K : PySem.W.Frag) : List V → Hp → VK → Prop := fun xs H Q => ∃ p ys, xs = [.ref p] ∧ (SqL K H p ys ∨ SqT K H p ys) ∧ Q (.int (ys.length : Nat)) H
theorem call_lenC {X : Cx} : CallR X (.builtin "len") (rLenS X.K) := call_len_seq
def rListC (K : PySem.W.Frag) : List V → Hp → VK → Prop := fun xs H Q => ∃ p ys, xs = [.ref p] ∧ (SqL K H p ys ∨ SqT K H p ys) ∧ ∀ l, H l = none → Q (.ref l) (upd H l (.lst ys))
theorem call_listC {X : Cx} : CallR X (.type "list") (rListC X.K) := call_list_of
/-! ### grids -/
abbrev Rw := Bool × List (List Int)
def kS (b : Bool) : Str := if b then "exact" else "sized"
def RowL (H : Hp) (b : Addr) (els : List (List Int)) : Prop := ∃ as : List Addr, H b = some (.lst (as.map V.ref)) ∧ A2 (IL H) as els
def RwV (K : PySem.W.Frag) (H : Hp) (v : V) (r : Rw) : Prop := ∃ t b, v = .ref t ∧ SqT K H t [.str (kS r.1), .ref b] ∧ RowL H b r.2
def GR (K : PySem.W.Frag) (H : Hp) (g : Addr) (rs : List Rw) : Prop := ∃ xs, H g = some (.lst xs) ∧ A2 (RwV K H) xs rs
/-- all stands but the tables of code -/
def Lk (H H' : Hp) : Prop := ∀ b o, H b = some o → (∀ q, o ≠ .tbl q) → H' b = some o
theorem Lk.refl {H : Hp} : Lk H H := fun _ _ h _ => h
theorem Lk.trans {H H1 H2 : Hp} (a : Lk H H1) (b : Lk H1 H2) : Lk H H2 := fun c o h n => b c o (a c o h n) n
theorem lk {H H' : Hp} (s : Same H H') : Lk H H' := fun b o h _ => s b o h
theorem lk_tab {H H' : Hp} {P : Addr} (h : GxR.TabG H P) (s : GxR.Tabbed P H H') : Lk H H' := fun b o e n => by
  by_cases z : b = P
  · obtain ⟨ps, hP, _⟩ := h
    rw [z, hP] at e
    cases e
    exact absurd rfl (n ps)
  · rw [s.2 b z]
    exact e
theorem tabG_same {H H' : Hp} {P : Addr} (h : GxR.TabG H P) (s : Same H H') : GxR.TabG H' P := let ⟨ps, e, t⟩ := h; ⟨ps, s _ _ e, t⟩
section
variable {K : PySem.W.Frag} {H H' : Hp}
theorem Lk.seqT (s : Lk H H') {a : Addr} {xs : List V} (h : SqT K H a xs) : SqT K H' a xs := by
  rcases h with (h | ⟨o, h⟩) | h
  · exact .inl (.inl (s _ _ h fun _ z => nomatch z))
  · exact .inl (.inr ⟨o, s _ _ h fun _ z => nomatch z⟩)
  · exact .inr h
theorem Lk.seqL (s : Lk H H') {a : Addr} {xs : List V} (h : SqL K H a xs) : SqL K H' a xs := by
  rcases h with (h | ⟨o, h⟩) | h
  · exact .inl (.inl (s _ _ h fun _ z => nomatch z))
  · exact .inl (.inr ⟨o, s _ _ h fun _ z => nomatch z⟩)
  · exact .inr h
theorem Lk.lst (s : Lk H H') {a : Addr} {xs : List V} (h : H a = some (.lst xs)) : H' a = some (.lst xs) := s _ _ h fun _ z => nomatch z
theorem IL.lk (s : Lk H H') {a : Addr} {ns : List Int} (h : IL H a ns) : IL H' a ns := s.lst h
theorem RowL.lk (s : Lk H H') {b : Addr} {els : List (List Int)} (h : RowL H b els) : RowL H' b els := let ⟨as, e, r⟩ := h; ⟨as, s.lst e, r.mono fun _ _ z => z.lk s⟩
theorem RwV.lk (s : Lk H H') {v : V} {r : Rw} (h : RwV K H v r) : RwV K H' v r := let ⟨t, b, e, z, y⟩ := h; ⟨t, b, e, s.seqT z, y.lk s⟩
theorem GR.lk (s : Lk H H') {g : Addr} {rs : List Rw} (h : GR K H g rs) : GR K H' g rs := let ⟨xs, e, r⟩ := h; ⟨xs, s.lst e, r.mono fun _ _ z => z.lk s⟩
end
/-- an element of a grid that is drawn -/
def VE (ns : List Int) : Prop := ns.length ≤ 13 ∧ ∀ n ∈ ns, n.natAbs ≤ 10 ^ 30
def VR (many : Nat) (els : List (List Int)) : Prop := els.length = many ∧ ∀ e ∈ els, VE e
def VG (many : Nat) (rs : List Rw) : Prop := rs.length = many ∧ ∀ r ∈ rs, VR many r.2
/-- the power of an element -/
def pw (ex : Bool) (e : List Int) : Option Int := if e = [] then none else some (if ex = true then (e.length : Int) - 1 else cf e (e.length - 1))
def vI : Option Int → V
  | none => .non
  | some k => .int k
-- D
section
variable {P : Program} {w : World} {K : PySem.W.Frag} {mg : Str → Option Value} {base : Heap}
def sp_law_draws (K : PySem.W.Frag) : Sp := fun vs H Q _ => ∃ (a : Addr) (ns : List Int), vs = [.ref a] ∧ SqL K H a (ns.map V.int) ∧ ns.length ≤ 63 ∧ ∀ H' p ds, Same H H' → H p = none → IL H' p ds → ds.length ≤ 4000 → Q (.ref p) H'
theorem ok_law_draws (T : Txt K mg) : FnOk P w K mg base CX0 1 T.law_draws.a T.law_draws.fd ["script"] (sp_law_draws K) := by
  refine T.law_draws.F.ok sc_law_draws (fun vs H Q E h => ?_) (fun cdv A outer s H vs Q E hr h => ?_)
  · obtain ⟨a, ns, rfl, _⟩ := h
    rfl
  · obtain ⟨a, ns, rfl, ha, hl, q⟩ := h
    refine ⟨_, (pss_cons (ps_set (i := 1) sc_law_draws.nd rfl (.inl rfl) (pe_lst pa_nil))
      (pss_cons (ps_for PassesOwn.never rfl (pi_range1 (by rfl) T.m_range (pa_cons (pe_callB (call_min2 rfl) (by rfl) T.m_min (by decide +kernel) (pa_cons pe_int (pa_cons (pe_callB call_len_seq (by rfl) T.m_len (by decide +kernel) (pa_cons (pv 0) pa_nil)) pa_nil))) pa_nil)) (pg_name (i := 2) sc_law_draws.nd rfl (.inl rfl))
        (pss_cons (ps_set (i := 3) sc_law_draws.nd rfl (.inl rfl) (pe_callB call_abs (by rfl) T.m_abs (by decide +kernel) (pa_cons (pe_ix ix_list (pv 0) (pv 2) (fun _ _ => rfl)) pa_nil)))
        (pss_one (ps_if (pt_cmpR op_ge (pv 3) (pe_op op_pow pe_int pe_int) (nomark _))
          (pss_one (ps_for PassesOwn.never rfl (pi_range1 (by rfl) T.m_range (pa_cons pe_int pa_nil)) (pg_name (i := 4) sc_law_draws.nd rfl (.inl rfl))
            (pss_one (ps_if (pt_cmpR op_gt (pv 3) pe_int (nomark _))
              (pss_cons (ps_expr (pe_bm PySem.F.plainAttrs_list PySem.F.slot_list_append PySem.F.type_list_append mt_append (pv 1) (pa_cons (pe_op op_mod (pe_callTy call_int1 (by rfl) T.m_int (by decide +kernel) (pa_cons (pv 3) pa_nil)) pe_int) pa_nil)))
              (pss_one (ps_set (i := 3) sc_law_draws.nd rfl (.inl rfl) (pe_op op_fdiv (pv 3) pe_int))))
              pss_nil))))
          (pss_cons (ps_set (i := 5) sc_law_draws.nd rfl (.inl rfl) (pe_op op_mod (pe_callTy call_int1 (by rfl) T.m_int (by decide +kernel) (pa_cons (pe_op op_add (pe_op op_mul (pv 3) pe_int) (pe_op op_mul (pe_op op_add (pv 2) pe_int) pe_int)) pa_nil)) pe_int))
          (pss_cons (ps_set (i := 5) sc_law_draws.nd rfl (.inl rfl) (pe_op op_mod (pe_callTy call_int1 (by rfl) T.m_int (by decide +kernel) (pa_cons (pe_op op_add (pe_op op_add (pe_op op_mul (pv 5) pe_int) (pe_op op_mul pe_int (pv 2))) pe_int) pa_nil)) pe_int))
          (pss_cons (ps_expr (pe_bm PySem.F.plainAttrs_list PySem.F.slot_list_append PySem.F.type_list_append mt_append (pv 1) (pa_cons (pe_op op_mod (pe_callTy call_int1 (by rfl) T.m_int (by decide +kernel) (pa_cons (pv 5) pa_nil)) pe_int) pa_nil)))
          (pss_one (ps_expr (pe_bm PySem.F.plainAttrs_list PySem.F.slot_list_append PySem.F.type_list_append mt_append (pv 1) (pa_cons (pe_op op_mod (pe_callTy call_int1 (by rfl) T.m_int (by decide +kernel) (pa_cons (pe_op op_fdiv (pv 5) pe_int) pa_nil)) pe_int) pa_nil)))))))))))
      (pss_one (ps_ret (pv 1))))), ?_⟩
    refine ⟨Nat.zero_le _, fun p hp => ?_⟩
    have s0 := same_upd (o := .lst []) hp
    obtain ⟨L, hL, eL⟩ : ∃ L : Nat, L ≤ ns.length ∧ L ≤ 63 ∧ (if ((ns.map V.int).length : Int) < 63 then ((ns.map V.int).length : Int) else 63) = (L : Int) := by
      refine ⟨min ns.length 63, Nat.min_le_left _ _, Nat.min_le_right _ _, ?_⟩
      rw [List.length_map]
      split <;> omega
    refine ⟨.ref a, rfl, a, _, rfl, .inl (s0.seq ha), 63, _, rfl, (L : Int), congrArg (fun z => [V.int z]) eL.2, by omega, by omega, ?_⟩
    refine for_range (n := (L : Int).toNat) (lo := 0) (fun i σ H' => Same H H' ∧ ∃ ds v2 v3 v4 v5, σ = [some (.ref a), some (.ref p), v2, v3, v4, v5] ∧ IL H' p ds ∧ ds.length ≤ 60 * i) ⟨s0, [], none, none, none, none, rfl, upd_same, Nat.zero_le _⟩ (fun i σ H' hi hP => ?_) (fun σ H' hP => ?_)
    · obtain ⟨sm, ds, v2, v3, v4, v5, rfl, hd, hn⟩ := hP
      have hi' : i < ns.length := by omega
      refine ⟨.ref a, rfl, _, rfl, a, _, _, _, rfl, rfl, sm.seq ha, at_map' (m := i) (by omega) hi', _, rfl, ?_⟩
      obtain ⟨r, hr1, er⟩ : ∃ r : Int, 0 ≤ r ∧ (if cf ns i < 0 then -cf ns i else cf ns i) = r := ⟨_, by split <;> omega, rfl⟩
      rw [er]
      refine ⟨_, rfl, _, _, rfl, rfl, ⟨by decide, by decide, by decide⟩, _, _, rfl, rfl, _, rfl, ?_⟩
      refine ite2 (fun _ => ?_) (fun hlt => ?_)
      · refine ⟨60, rfl, by decide, by decide, ?_⟩
        refine for_range (n := 60) (lo := 0) (fun j σ H' => Same H H' ∧ ∃ ds v2 v4 v5 r, σ = [some (.ref a), some (.ref p), v2, some (.int r), v4, v5] ∧ 0 ≤ r ∧ IL H' p ds ∧ ds.length ≤ 60 * i + j) ⟨sm, ds, _, _, _, r, rfl, hr1, hd, hn⟩ (fun j σ H' hj hP => ?_) (fun σ H' hP => ?_)
        · obtain ⟨sm, ds, v2, v4, v5, r, rfl, hr1, hd, hn⟩ := hP
          refine ⟨_, rfl, _, _, rfl, rfl, _, rfl, ?_⟩
          refine ite2 (fun _ => ?_) (fun _ => ⟨sm, ds, _, _, _, r, rfl, hr1, hd, by omega⟩)
          refine ⟨.ref p, rfl, .inl ⟨rfl, _, hd.sq⟩, _, rfl, .inl ⟨_, rfl, _, _, rfl, rfl, (by show (0 : Int) < _; decide), p, _, _, rfl, rfl, hd, by rw [List.length_map]; exact small' (by omega), ?_⟩⟩
          rw [app_ints]
          refine ⟨_, rfl, _, _, rfl, rfl, ⟨by decide, by decide⟩, ?_⟩
          exact ⟨same_over sm hp, _, _, _, _, _, rfl, by omega, il_upd, by rw [List.length_append]; show _ + 1 ≤ _; omega⟩
        · obtain ⟨sm, ds, v2, v4, v5, r, rfl, hr1, hd, hn⟩ := hP
          exact ⟨sm, ds, _, _, _, _, rfl, hd, by omega⟩
      · have hr2 : r < 10 ^ 18 := by
          have e : ((10 : Int) ^ (18 : Int).toNat) = 10 ^ 18 := rfl
          rw [e] at hlt
          have := of_decide_eq_false (Bool.eq_false_iff.mpr hlt)
          omega
        refine ⟨_, rfl, _, _, rfl, rfl, .inl ⟨by omega, by omega⟩, _, rfl, _, _, rfl, rfl, _, _, rfl, rfl, .inr ⟨by decide, by decide⟩, _, _, rfl, rfl, .inl ⟨_, rfl, _, _, rfl, rfl, (by show (0 : Int) < _; decide), ?_⟩⟩
        refine ⟨_, rfl, _, _, rfl, rfl, .inr ⟨by decide, by decide⟩, _, rfl, _, _, rfl, rfl, .inl ⟨by decide, by decide⟩, _, _, rfl, rfl, _, _, rfl, rfl, .inl ⟨_, rfl, _, _, rfl, rfl, (by show (0 : Int) < _; decide), ?_⟩⟩
        refine ⟨.ref p, rfl, .inl ⟨rfl, _, hd.sq⟩, _, rfl, .inl ⟨_, rfl, _, _, rfl, rfl, (by show (0 : Int) < _; decide), p, _, _, rfl, rfl, hd, by rw [List.length_map]; exact small' (by omega), ?_⟩⟩
        rw [app_ints]
        refine ⟨.ref p, rfl, .inl ⟨rfl, _, il_upd.sq⟩, _, rfl, _, _, rfl, rfl, ⟨by decide, by decide⟩, .inl ⟨_, rfl, _, _, rfl, rfl, (by show (0 : Int) < _; decide), p, _, _, rfl, rfl, il_upd, by rw [List.length_map, List.length_append]; exact small' (by show _ + 1 < _; omega), ?_⟩⟩
        rw [app_ints]
        exact ⟨same_over (same_over sm hp) hp, _, _, _, _, _, rfl, il_upd, by rw [List.length_append, List.length_append]; show _ + 1 + 1 ≤ _; omega⟩
    · obtain ⟨sm, ds, v2, v3, v4, v5, rfl, hd, hn⟩ := hP
      exact ⟨_, rfl, q H' p ds sm hp hd (by omega)⟩
def sp_law_mix : Sp := fun vs H Q _ => ∃ (a : Addr) (ds : List Int) (k many : Int), vs = [.ref a, .int k, .int many] ∧ IL H a ds ∧ 0 ≤ k ∧ 0 < many ∧ ∀ r, 0 ≤ r → r < many → Q (.int r) H
theorem ok_law_mix (T : Txt K mg) : FnOk P w K mg base CX0 1 T.law_mix.a T.law_mix.fd ["draws", "k", "many"] sp_law_mix := by
  refine T.law_mix.F.ok sc_law_mix (fun vs H Q E h => ?_) (fun cdv A outer s H vs Q E hr h => ?_)
  · obtain ⟨a, ds, k, m, rfl, _⟩ := h
    rfl
  · obtain ⟨a, ds, k, m, rfl, ha, hk, hm, q⟩ := h
    have qq : ∀ z : Int, Q (.int (z % m)) H := fun z => q _ (Int.emod_nonneg _ (by omega)) (Int.emod_lt_of_pos _ hm)
    refine ⟨_, (pss_cons (ps_set (i := 3) sc_law_mix.nd rfl (.inl rfl) pe_int)
      (pss_cons (ps_if (pt_cmpR op_gt (pe_callB call_len_seq (by rfl) T.m_len (by decide +kernel) (pa_cons (pv 0) pa_nil)) pe_int (nomark _))
        (pss_one (ps_set (i := 3) sc_law_mix.nd rfl (.inl rfl) (pe_ix ix_list (pv 0) (pe_op op_mod (pe_callTy call_int1 (by rfl) T.m_int (by decide +kernel) (pa_cons (pv 1) pa_nil)) (pe_callB call_len_seq (by rfl) T.m_len (by decide +kernel) (pa_cons (pv 0) pa_nil))) (fun _ _ => rfl))))
        pss_nil)
      (pss_cons (ps_if (pt_cmpR op_lt (pv 1) (pe_callB call_len_seq (by rfl) T.m_len (by decide +kernel) (pa_cons (pv 0) pa_nil)) (nomark _))
        (pss_one (ps_ret (pe_op op_mod (pe_callTy call_int1 (by rfl) T.m_int (by decide +kernel) (pa_cons (pv 3) pa_nil)) (pv 2))))
        pss_nil)
      (pss_one (ps_ret (pe_op op_mod (pe_callTy call_int1 (by rfl) T.m_int (by decide +kernel) (pa_cons (pe_op op_fdiv (pe_callTy call_int1 (by rfl) T.m_int (by decide +kernel) (pa_cons (pe_op op_add (pe_op op_mul (pv 3) pe_int) (pe_op op_mul (pv 1) pe_int)) pa_nil)) pe_int) pa_nil)) (pv 2))))))), ?_⟩
    refine ⟨.ref a, rfl, a, _, rfl, .inl ha.sq, _, _, rfl, rfl, _, rfl, ?_⟩
    rw [List.length_map]
    refine ite2 (fun h => ?_) (fun h => ?_)
    · have hp : 0 < ds.length := by have := of_decide_eq_true h; omega
      obtain ⟨n, hn, en⟩ : ∃ n : Nat, n < ds.length ∧ k % (ds.length : Int) = (n : Int) := ⟨(k % (ds.length : Int)).toNat, by have := Int.emod_nonneg k (show (ds.length : Int) ≠ 0 by omega); have := Int.emod_lt_of_pos k (show (0 : Int) < ds.length by omega); omega, by have := Int.emod_nonneg k (show (ds.length : Int) ≠ 0 by omega); omega⟩
      refine ⟨.ref a, rfl, _, rfl, .inl ⟨_, rfl, .ref a, rfl, a, _, rfl, .inl ha.sq, _, _, rfl, rfl, (by show (0 : Int) < _; rw [List.length_map]; omega), a, _, _, _, rfl, rfl, ha.sq, at_map' (m := n) (by rw [List.length_map]; exact en) hn, ?_⟩⟩
      refine ⟨_, rfl, .ref a, rfl, a, _, rfl, .inl ha.sq, _, _, rfl, rfl, _, rfl, ?_⟩
      refine ite2 (fun _ => ?_) (fun _ => ?_)
      · exact ⟨_, rfl, .inl ⟨_, rfl, _, rfl, _, _, rfl, rfl, hm, qq _⟩⟩
      · exact ⟨_, rfl, _, _, rfl, rfl, .inr ⟨by decide, by decide⟩, _, rfl, _, _, rfl, rfl, .inr ⟨by decide, by decide⟩, _, _, rfl, rfl, .inl ⟨_, rfl, _, _, rfl, rfl, ⟨by decide, by decide⟩, .inl ⟨_, rfl, _, rfl, _, _, rfl, rfl, hm, qq _⟩⟩⟩
    · refine ⟨_, rfl, .ref a, rfl, a, _, rfl, .inl ha.sq, _, _, rfl, rfl, _, rfl, ?_⟩
      refine ite2 (fun _ => ?_) (fun _ => ?_)
      · exact ⟨_, rfl, .inl ⟨_, rfl, _, rfl, _, _, rfl, rfl, hm, qq _⟩⟩
      · exact ⟨_, rfl, _, _, rfl, rfl, .inr ⟨by decide, by decide⟩, _, rfl, _, _, rfl, rfl, .inr ⟨by decide, by decide⟩, _, _, rfl, rfl, .inl ⟨_, rfl, _, _, rfl, rfl, ⟨by decide, by decide⟩, .inl ⟨_, rfl, _, rfl, _, _, rfl, rfl, hm, qq _⟩⟩⟩
end
-- E
section
variable {P : Program} {w : World} {K : PySem.W.Frag} {mg : Str → Option Value} {base : Heap}
theorem cut_to {ns : List Int} {m : Nat} (h : m ≤ ns.length) : cutV (ns.map V.int) none (some (m : Int)) = (ns.take m).map V.int := by
  unfold cutV
  rw [HT.sIx_none, HT.sIx_nat, List.drop_zero, List.length_map, Nat.min_eq_left h, Nat.sub_zero, List.map_take]
theorem cut_from {ns : List Int} : cutV (ns.map V.int) (some ((1 : Nat) : Int)) none = (ns.drop 1).map V.int := by
  unfold cutV
  rw [HT.sIx_none, HT.sIx_nat, List.length_map, List.map_drop, List.take_of_length_le]
  · cases ns with
    | nil => rfl
    | cons x r => rw [Nat.min_eq_left (by show 1 ≤ r.length + 1; omega)]
  · rw [List.length_drop, List.length_map]; exact Nat.le_refl _
def sp_law_trimmed (K : PySem.W.Frag) : Sp := fun vs H Q _ => ∃ (a : Addr) (ns : List Int), vs = [.ref a] ∧ SqL K H a (ns.map V.int) ∧ ns.length ≤ 40 ∧ ∀ H' p m, Same H H' → H p = none → IL H' p (ns.take m) → Q (.ref p) H'
theorem ok_law_trimmed (T : Txt K mg) : FnOk P w K mg base CX0 1 T.law_trimmed.a T.law_trimmed.fd ["numbers"] (sp_law_trimmed K) := by
  refine T.law_trimmed.F.ok sc_law_trimmed (fun vs H Q E h => ?_) (fun cdv A outer s H vs Q E hr h => ?_)
  · obtain ⟨a, ns, rfl, _⟩ := h
    rfl
  · obtain ⟨a, ns, rfl, ha, hl, q⟩ := h
    refine ⟨_, (pss_cons (ps_set (i := 1) sc_law_trimmed.nd rfl (.inl rfl) (pe_callB call_len_seq (by rfl) T.m_len (by decide +kernel) (pa_cons (pv 0) pa_nil)))
      (pss_cons (ps_for PassesOwn.never rfl (pi_range1 (by rfl) T.m_range (pa_cons (pe_callB call_len_seq (by rfl) T.m_len (by decide +kernel) (pa_cons (pv 0) pa_nil)) pa_nil)) (pg_name (i := 2) sc_law_trimmed.nd rfl (.inl rfl))
        (pss_one (ps_if (PW.pt (pw_and (pt_cmpR op_gt (pv 1) pe_int (nomark _)) (pw_and1 (pt_cmpR op_eq (pe_ix ix_list (pv 0) (pe_op op_sub (pv 1) pe_int) (fun _ _ => rfl)) pe_int (nomark _)))))
          (pss_one (ps_set (i := 1) sc_law_trimmed.nd rfl (.inl rfl) (pe_op op_sub (pv 1) pe_int)))
          pss_nil)))
      (pss_one (ps_ret (pe_slice sl_list (pv 0) po_none (po_some (pv 1))))))), ?_⟩
    refine ⟨.ref a, rfl, a, _, rfl, .inl ha, ?_⟩
    refine ⟨.ref a, rfl, a, _, rfl, .inl ha, (ns.length : Nat), by rw [List.length_map], by omega, by omega, ?_⟩
    rw [Int.toNat_natCast, List.length_map]
    refine for_range (n := ns.length) (lo := 0) (fun i σ H' => H' = H ∧ ∃ (m : Nat) (v2 : Option V), σ = [some (.ref a), some (.int (m : Int)), v2] ∧ m ≤ ns.length) ⟨rfl, ns.length, none, rfl, Nat.le_refl _⟩ (fun i σ H' hi hP => ?_) (fun σ H' hP => ?_)
    · obtain ⟨rfl, m, v2, rfl, hm⟩ := hP
      refine ⟨_, rfl, _, _, rfl, rfl, _, rfl, ?_⟩
      refine ite2 (fun h => ?_) (fun h => iteF ⟨rfl, m, _, rfl, hm⟩)
      have m0 : 0 < m := by have := of_decide_eq_true h; omega
      refine ⟨.ref a, rfl, _, rfl, _, _, rfl, rfl, a, _, _, _, rfl, rfl, ha, at_map' (m := m - 1) (by omega) (by omega), rfl, _, rfl, ?_⟩
      refine ite2 (fun _ => ?_) (fun _ => ⟨rfl, m, _, rfl, hm⟩)
      refine ⟨_, rfl, _, _, rfl, rfl, rfl, m - 1, some (.int (0 + (i : Int))), ?_, by omega⟩
      rw [show ((m - 1 : Nat) : Int) = (m : Int) - 1 by omega]; rfl
    · obtain ⟨rfl, m, v2, rfl, hm⟩ := hP
      refine ⟨.ref a, rfl, _, rfl, _, rfl, a, _, rfl, ha, fun p hp => ?_⟩
      exact q _ p m (same_upd hp) hp (by rw [cut_to hm]; exact upd_same)
theorem neg_le {i : Int} {b : Nat} (h : i.natAbs ≤ b) : (-i).natAbs ≤ b := by rw [Int.natAbs_neg]; exact h
def sp_law_number : Sp := fun vs H Q _ => ∃ (a : Addr) (ds : List Int) (k : Int), vs = [.ref a, .int k] ∧ IL H a ds ∧ 0 ≤ k ∧ ∀ H' r, Same H H' → r.natAbs ≤ 10 ^ 30 → Q (.int r) H'
theorem ok_law_number (T : Txt K mg) : FnOk P w K mg base CX0 2 T.law_number.a T.law_number.fd ["draws", "k"] sp_law_number := by
  refine T.law_number.F.ok sc_law_number (fun vs H Q E h => ?_) (fun cdv A outer s H vs Q E hr h => ?_)
  · obtain ⟨a, ds, k, rfl, _⟩ := h
    rfl
  · obtain ⟨a, ds, k, rfl, ha, hk, q⟩ := h
    refine ⟨_, (pss_cons (ps_set (i := 2) sc_law_number.nd rfl (.inl rfl) (pe_op op_sub (pe_op op_pow pe_int pe_int) (pe_call (ok_law_mix T) (hr.mono (by decide)) (by rfl) T.law_mix.g T.law_mix.F.kp T.law_mix.b .nil pass0 (pa_cons (pv 0) (pa_cons (pe_op op_add (pv 1) pe_int) (pa_cons pe_int pa_nil))))))
      (pss_cons (ps_set (i := 3) sc_law_number.nd rfl (.inl rfl) (pe_lst (pa_cons pe_int (pa_cons (pe_un un_neg pe_int) (pa_cons pe_int (pa_cons (pe_op op_add pe_int (pe_call (ok_law_mix T) (hr.mono (by decide)) (by rfl) T.law_mix.g T.law_mix.F.kp T.law_mix.b .nil pass0 (pa_cons (pv 0) (pa_cons (pe_op op_add (pv 1) pe_int) (pa_cons pe_int pa_nil))))) (pa_cons (pe_op op_add pe_int (pe_call (ok_law_mix T) (hr.mono (by decide)) (by rfl) T.law_mix.g T.law_mix.F.kp T.law_mix.b .nil pass0 (pa_cons (pv 0) (pa_cons (pe_op op_add (pv 1) pe_int) (pa_cons pe_int pa_nil))))) (pa_cons (pe_un un_neg pe_int) (pa_cons (pv 2) (pa_cons (pe_un un_neg (pv 2)) pa_nil))))))))))
      (pss_one (ps_ret (pe_ix ix_list (pv 3) (pe_call (ok_law_mix T) (hr.mono (by decide)) (by rfl) T.law_mix.g T.law_mix.F.kp T.law_mix.b .nil pass0 (pa_cons (pv 0) (pa_cons (pv 1) (pa_cons pe_int pa_nil)))) (fun _ _ => rfl)))))), ?_⟩
    refine ⟨_, _, rfl, rfl, ⟨by decide, by decide, by decide⟩, .ref a, rfl, _, rfl, _, _, rfl, rfl, a, ds, _, _, rfl, ha, by omega, by decide, fun r1 p1 u1 => ?_⟩
    refine ⟨_, _, rfl, rfl, ?_⟩
    obtain ⟨g, eg, hg⟩ : ∃ g : Int, (10 : Int) ^ (30 : Int).toNat - r1 = g ∧ g.natAbs ≤ 10 ^ 30 := ⟨_, rfl, by
      have e : ((10 : Int) ^ (30 : Int).toNat) = 10 ^ 30 := rfl
      rw [e]
      omega⟩
    show gName 2 (V.int ((10 : Int) ^ (30 : Int).toNat - r1)) _ _ _
    rw [eg]
    refine ⟨_, rfl, .ref a, rfl, _, rfl, _, _, rfl, rfl, a, ds, _, _, rfl, ha, by omega, by decide, fun r2 p2 u2 => ?_⟩
    refine ⟨_, _, rfl, rfl, ?_⟩
    refine ⟨.ref a, rfl, _, rfl, _, _, rfl, rfl, a, ds, _, _, rfl, ha, by omega, by decide, fun r3 p3 u3 => ?_⟩
    refine ⟨_, _, rfl, rfl, ?_⟩
    refine ⟨_, rfl, _, rfl, _, rfl, _, rfl, ?_⟩
    refine ⟨by show 8 ≤ sizeLine; decide, fun l nl => ?_⟩
    have s1 := same_upd nl (o := .lst [.int 1, .int (-1), .int 2, .int (1 + r2), .int (1 + r3), .int (-1000000), .int g, .int (-g)])
    refine ⟨.ref l, rfl, .ref a, rfl, _, rfl, a, ds, _, _, rfl, ha.same s1, hk, by decide, fun r4 p4 u4 => ?_⟩
    have hall : ∀ x ∈ [1, -1, 2, 1 + r2, 1 + r3, -1000000, g, -g], x.natAbs ≤ 10 ^ 30 := fun x hx => by
      simp only [List.mem_cons, List.not_mem_nil, or_false] at hx
      rcases hx with rfl | rfl | rfl | rfl | rfl | rfl | rfl | rfl <;> first
        | exact hg
        | exact neg_le hg
        | omega
    have hlt : r4.toNat < [1, -1, 2, 1 + r2, 1 + r3, -1000000, g, -g].length := by show _ < 8; omega
    refine ⟨l, _, _, _, rfl, rfl, .of upd_same, at_map' (ns := [1, -1, 2, 1 + r2, 1 + r3, -1000000, g, -g]) (m := r4.toNat) (by omega) hlt, ?_⟩
    exact q _ _ s1 (hall _ (mem_at (at_map hlt)))
end
-- F
section
variable {P : Program} {w : World} {K : PySem.W.Frag} {mg : Str → Option Value} {base : Heap}
theorem rep0 (n : Nat) : (List.replicate n [V.int 0]).flatten = (List.replicate n (0 : Int)).map V.int := by rw [List.flatten_replicate_singleton, List.map_replicate]
theorem ix_ok {n j : Nat} {i : Int} (e : i = (j : Int)) (h : j < n) : ixN n i = some j := by
  unfold ixN
  rw [if_pos (by omega), if_pos (by omega), e]; rfl
theorem mem_set {α : Type} {xs : List α} {i : Nat} {y x : α} (h : x ∈ xs.set i y) : x ∈ xs ∨ x = y := List.mem_or_eq_of_mem_set h
theorem set_map {xs : List Int} {i : Nat} {r : Int} : (xs.map V.int).set i (V.int r) = (xs.set i r).map V.int := by rw [List.map_set]
def OutE (H : Hp) (Q : VK) : Prop := ∀ H' p ns, Same H H' → H p = none → IL H' p ns → VE ns → Q (.ref p) H'
def sp_law_element : Sp := fun vs H Q _ => ∃ (a : Addr) (ds : List Int) (k sh : Int), vs = [.ref a, .int k, .int sh] ∧ IL H a ds ∧ 0 ≤ k ∧ OutE H Q
theorem ok_law_element (T : Txt K mg) : FnOk P w K mg base CX0 3 T.law_element.a T.law_element.fd ["draws", "k", "shares"] sp_law_element := by
  refine T.law_element.F.ok sc_law_element (fun vs H Q E h => ?_) (fun cdv A outer s H vs Q E hr h => ?_)
  · obtain ⟨a, ds, k, sh, rfl, _⟩ := h
    rfl
  · obtain ⟨a, ds, k, sh, rfl, ha, hk, q⟩ := h
    refine ⟨_, (pss_cons (ps_if (pt_cmpR op_lt (pe_call (ok_law_mix T) (hr.mono (by decide)) (by rfl) T.law_mix.g T.law_mix.F.kp T.law_mix.b .nil pass0 (pa_cons (pv 0) (pa_cons (pv 1) (pa_cons pe_int pa_nil)))) (pv 2) (nomark _))
        (pss_one (ps_ret (pe_lst pa_nil)))
        pss_nil)
      (pss_cons (ps_set (i := 3) sc_law_element.nd rfl (.inl rfl) (pe_op op_rep (pe_lst (pa_cons pe_int pa_nil)) (pe_call (ok_law_mix T) (hr.mono (by decide)) (by rfl) T.law_mix.g T.law_mix.F.kp T.law_mix.b .nil pass0 (pa_cons (pv 0) (pa_cons (pe_op op_add (pv 1) pe_int) (pa_cons (pe_ix ix_list (pe_lst (pa_cons pe_int (pa_cons pe_int (pa_cons pe_int (pa_cons pe_int pa_nil))))) (pe_call (ok_law_mix T) (hr.mono (by decide)) (by rfl) T.law_mix.g T.law_mix.F.kp T.law_mix.b .nil pass0 (pa_cons (pv 0) (pa_cons (pe_op op_add (pv 1) pe_int) (pa_cons pe_int pa_nil)))) (fun _ _ => rfl)) pa_nil))))))
      (pss_cons (ps_for PassesOwn.never rfl (pi_range1 (by rfl) T.m_range (pa_cons (pe_callB call_len_seq (by rfl) T.m_len (by decide +kernel) (pa_cons (pv 3) pa_nil)) pa_nil)) (pg_name (i := 4) sc_law_element.nd rfl (.inl rfl))
        (pss_one (ps_if (pt_cmpR op_eq (pe_call (ok_law_mix T) (hr.mono (by decide)) (by rfl) T.law_mix.g T.law_mix.F.kp T.law_mix.b .nil pass0 (pa_cons (pv 0) (pa_cons (pe_op op_add (pe_op op_add (pv 1) pe_int) (pe_op op_mul pe_int (pv 4))) (pa_cons pe_int pa_nil)))) pe_int (nomark _))
          (pss_one (ps_asg (pe_call (ok_law_number T) (hr.mono (by decide)) (by rfl) T.law_number.g T.law_number.F.kp T.law_number.b .nil pass0 (pa_cons (pv 0) (pa_cons (pe_op op_add (pe_op op_add (pv 1) pe_int) (pe_op op_mul pe_int (pv 4))) pa_nil))) (pg_sub (pv 3) (pv 4) set_list)))
          pss_nil)))
      (pss_one (ps_ret (pe_op op_cat (pv 3) (pe_lst (pa_cons (pe_call (ok_law_number T) (hr.mono (by decide)) (by rfl) T.law_number.g T.law_number.F.kp T.law_number.b .nil pass0 (pa_cons (pv 0) (pa_cons (pe_op op_add (pv 1) pe_int) pa_nil))) pa_nil)))))))), ?_⟩
    refine ⟨.ref a, rfl, _, rfl, a, ds, _, _, rfl, ha, hk, by decide, fun r0 p0 u0 => ?_⟩
    refine ⟨_, rfl, _, _, rfl, rfl, _, rfl, ?_⟩
    refine ite2 (fun _ => ?_) (fun _ => ?_)
    · exact ⟨by show 0 ≤ sizeLine; decide, fun p hp => q _ p [] (same_upd hp) hp upd_same ⟨by show 0 ≤ 13; decide, fun _ z => by cases z⟩⟩
    refine ⟨by show 1 ≤ sizeLine; decide, fun l0 n0 => ?_⟩
    have s0 := same_upd n0 (o := .lst [.int 0])
    refine ⟨.ref a, rfl, _, rfl, _, _, rfl, rfl, by show 4 ≤ sizeLine; decide, fun l1 n1 => ?_⟩
    have s1 := same_upd n1 (o := .lst [.int 2, .int 4, .int 4, .int 13])
    refine ⟨.ref a, rfl, _, rfl, _, _, rfl, rfl, a, ds, _, _, rfl, ha.same (s0.trans s1), by omega, by decide, fun r2 p2 u2 => ?_⟩
    have hlt : r2.toNat < [(2 : Int), 4, 4, 13].length := by show _ < 4; omega
    refine ⟨l1, _, _, _, rfl, rfl, .of upd_same, at_map' (ns := [2, 4, 4, 13]) (m := r2.toNat) (by omega) hlt, ?_⟩
    have hm : ∀ x ∈ [(2 : Int), 4, 4, 13], 0 < x ∧ x ≤ 13 := by decide
    obtain ⟨m0, m1⟩ := hm _ (mem_at (at_map hlt))
    refine ⟨a, ds, _, _, rfl, ha.same (s0.trans s1), by omega, m0, fun r3 p3 u3 => ?_⟩
    obtain ⟨n, en, hn⟩ : ∃ n : Nat, r3 = (n : Int) ∧ n ≤ 12 := ⟨r3.toNat, by omega, by omega⟩
    subst en
    refine ⟨l0, _, _, rfl, rfl, s1 _ _ upd_same, by omega, by omega, by show 1 * _ ≤ _; rw [Int.toNat_natCast]; exact small (by omega), fun D nD => ?_⟩
    rw [Int.toNat_natCast, rep0]
    have sD := s0.trans (s1.trans (same_upd nD (o := .lst ((List.replicate n (0 : Int)).map V.int))))
    have nD0 : H D = none := (s0.trans s1).free nD
    refine ⟨.ref D, rfl, D, _, rfl, .inl (.of upd_same), (n : Nat), by rw [List.length_map, List.length_replicate], by omega, by omega, ?_⟩
    rw [Int.toNat_natCast]
    refine for_range (n := n) (lo := 0) (fun i σ H' => Same H H' ∧ ∃ (xs : List Int) (v4 : Option V), σ = [some (.ref a), some (.int k), some (.int sh), some (.ref D), v4] ∧ IL H' D xs ∧ xs.length = n ∧ ∀ x ∈ xs, x.natAbs ≤ 10 ^ 30) ⟨sD, _, none, rfl, upd_same, List.length_replicate, fun x hx => by rw [(List.mem_replicate.mp hx).2]; decide⟩ (fun i σ H' hi hP => ?_) (fun σ H' hP => ?_)
    · obtain ⟨sm, xs, v4, rfl, hD, hl, hb⟩ := hP
      refine ⟨.ref a, rfl, _, rfl, _, _, rfl, rfl, _, rfl, _, _, rfl, rfl, .inl ⟨by decide, by decide⟩, _, _, rfl, rfl, a, ds, _, _, rfl, ha.same sm, by omega, by decide, fun r4 p4 u4 => ⟨rfl, _, rfl, ?_⟩⟩
      refine ite2 (fun _ => ?_) (fun _ => ⟨sm, xs, _, rfl, hD, hl, hb⟩)
      refine ⟨.ref a, rfl, _, rfl, _, _, rfl, rfl, _, rfl, _, _, rfl, rfl, .inl ⟨by decide, by decide⟩, _, _, rfl, rfl, a, ds, _, rfl, ha.same sm, by omega, fun G r5 s5 u5 => ?_⟩
      refine ⟨.ref D, rfl, _, rfl, D, _, _, i, rfl, rfl, s5 _ _ hD, ix_ok (by omega) (by rw [List.length_map]; omega), ?_⟩
      rw [set_map]
      refine ⟨same_over (sm.trans s5) nD0, _, _, rfl, upd_same, by rw [List.length_set]; exact hl, fun x hx => ?_⟩
      rcases mem_set hx with z | z
      · exact hb x z
      · rw [z]; exact u5
    · obtain ⟨sm, xs, v4, rfl, hD, hl, hb⟩ := hP
      refine ⟨.ref D, rfl, .ref a, rfl, _, rfl, _, _, rfl, rfl, a, ds, _, rfl, ha.same sm, by omega, fun G r6 s6 u6 => ?_⟩
      refine ⟨by show 1 ≤ sizeLine; decide, fun l2 n2 => ?_⟩
      have s2 := same_upd n2 (o := .lst [.int r6])
      refine ⟨D, l2, _, _, rfl, rfl, s2 _ _ (s6 _ _ hD), upd_same, by rw [List.length_map]; exact small (by show _ + 1 ≤ _; omega), fun p np => ?_⟩
      have sp := same_upd np (o := .lst (xs.map V.int ++ [.int r6]))
      refine q _ p (xs ++ [r6]) (sm.trans (s6.trans (s2.trans sp))) ((sm.trans (s6.trans s2)).free np) (by unfold IL; rw [← app_ints]; exact upd_same) ⟨by rw [List.length_append]; show _ + 1 ≤ _; omega, fun x hx => ?_⟩
      rcases List.mem_append.mp hx with z | z
      · exact hb x z
      · rw [List.mem_singleton.mp z]; exact u6
def sp_law_orders : Sp := fun vs H Q _ => ∃ (a : Addr) (ds : List Int) (k sh : Int), vs = [.ref a, .int k, .int sh] ∧ IL H a ds ∧ 0 ≤ k ∧ OutE H Q
theorem ok_law_orders (T : Txt K mg) : FnOk P w K mg base CX0 2 T.law_orders.a T.law_orders.fd ["draws", "k", "shares"] sp_law_orders := by
  refine T.law_orders.F.ok sc_law_orders (fun vs H Q E h => ?_) (fun cdv A outer s H vs Q E hr h => ?_)
  · obtain ⟨a, ds, k, sh, rfl, _⟩ := h
    rfl
  · obtain ⟨a, ds, k, sh, rfl, ha, hk, q⟩ := h
    refine ⟨_, (pss_cons (ps_if (pt_cmpR op_lt (pe_call (ok_law_mix T) (hr.mono (by decide)) (by rfl) T.law_mix.g T.law_mix.F.kp T.law_mix.b .nil pass0 (pa_cons (pv 0) (pa_cons (pv 1) (pa_cons pe_int pa_nil)))) (pv 2) (nomark _))
        (pss_one (ps_ret (pe_lst pa_nil)))
        pss_nil)
      (pss_cons (ps_set (i := 3) sc_law_orders.nd rfl (.inr rfl) (pe_op op_add pe_int (pe_call (ok_law_mix T) (hr.mono (by decide)) (by rfl) T.law_mix.g T.law_mix.F.kp T.law_mix.b .nil pass0 (pa_cons (pv 0) (pa_cons (pe_op op_add (pv 1) pe_int) (pa_cons pe_int pa_nil))))))
      (pss_cons (ps_if (pt_cmpR op_eq (pe_call (ok_law_mix T) (hr.mono (by decide)) (by rfl) T.law_mix.g T.law_mix.F.kp T.law_mix.b .nil pass0 (pa_cons (pv 0) (pa_cons (pe_op op_add (pv 1) pe_int) (pa_cons pe_int pa_nil)))) pe_int (nomark _))
        (pss_one (ps_ret (pe_callB (cr_sortedSet rfl) (by rfl) T.m_sorted (by decide +kernel) (pa_cons (pe_callTy (LM.call_setR rfl) (by rfl) T.m_set (by decide +kernel) (pa_cons (pe_lst (pa_cons (pe_call (ok_law_mix T) (hr.mono (by decide)) (by rfl) T.law_mix.g T.law_mix.F.kp T.law_mix.b .nil pass0 (pa_cons (pv 0) (pa_cons (pe_op op_add (pv 1) pe_int) (pa_cons pe_int pa_nil)))) (pa_cons (pe_call (ok_law_mix T) (hr.mono (by decide)) (by rfl) T.law_mix.g T.law_mix.F.kp T.law_mix.b .nil pass0 (pa_cons (pv 0) (pa_cons (pe_op op_add (pv 1) pe_int) (pa_cons pe_int pa_nil)))) pa_nil))) pa_nil)) pa_nil))))
        pss_nil)
      (pss_one (ps_ret (pe_lc (own := [("order", 4)]) rfl sc_law_orders.nd (pi_range1 (by rfl) T.m_range (pa_cons pe_int pa_nil)) (blkOk_by (N := ["draws", "k", "shares", "chosen", "order"]) (sc := defScope s_law_orders) (by decide +kernel)) (fun _ _ _ _ _ => (pg_name (i := 4) sc_law_orders.nd rfl (.inl rfl))) (fun _ _ _ _ _ => (pts_one (pt_cmpR op_eq (pe_op op_and (pe_op op_shr (pv 3) (pv 4)) pe_int) pe_int (nomark _)))) (fun _ _ _ _ _ => (pv 4)))))))), ?_⟩
    refine ⟨.ref a, rfl, _, rfl, a, ds, _, _, rfl, ha, hk, by decide, fun r0 p0 u0 => ?_⟩
    refine ⟨_, rfl, _, _, rfl, rfl, _, rfl, ?_⟩
    refine ite2 (fun _ => ?_) (fun _ => ?_)
    · exact ⟨by show 0 ≤ sizeLine; decide, fun p hp => q _ p [] (same_upd hp) hp upd_same ⟨by show 0 ≤ 13; decide, fun _ z => by cases z⟩⟩
    refine ⟨.ref a, rfl, _, rfl, _, _, rfl, rfl, a, ds, _, _, rfl, ha, by omega, by decide, fun r1 p1 u1 => ?_⟩
    refine ⟨_, _, rfl, rfl, ?_⟩
    refine ⟨.ref a, rfl, _, rfl, _, _, rfl, rfl, a, ds, _, _, rfl, ha, by omega, by decide, fun r2 p2 u2 => ⟨rfl, _, rfl, ?_⟩⟩
    refine ite2 (fun _ => ?_) (fun _ => ?_)
    · refine ⟨.ref a, rfl, _, rfl, _, _, rfl, rfl, a, ds, _, _, rfl, ha, by omega, by decide, fun r3 p3 u3 => ?_⟩
      refine ⟨.ref a, rfl, _, rfl, _, _, rfl, rfl, a, ds, _, _, rfl, ha, by omega, by decide, fun r4 p4 u4 => ?_⟩
      refine ⟨by show 2 ≤ sizeLine; decide, fun l1 n1 => ?_⟩
      have s1 := same_upd n1 (o := .lst [.int r3, .int r4])
      refine ⟨l1, [r3, r4], rfl, .of upd_same, by show 2 ≤ 40; decide, fun c S n nc hS hn => ?_⟩
      have hn2 : n ≤ 2 := hn
      have s2 := same_upd nc (o := SetO w c S n)
      refine ⟨c, S, n, rfl, upd_same, by omega, fun ns p pw mem len np => ?_⟩
      refine q _ p ns (s1.trans (s2.trans (same_upd np))) ((s1.trans s2).free np) upd_same ⟨by omega, fun x hx => ?_⟩
      have := hS x ((mem x).mp hx)
      simp only [List.mem_cons, List.not_mem_nil, or_false] at this
      rcases this with rfl | rfl <;> omega
    · refine ⟨4, rfl, by decide, by decide, fun D nD => ?_⟩
      refine lc_inv (walk_range (lo := 0) (n := 4)) (fun i G ys => ∃ ns : List Int, ys = ns.map V.int ∧ ns.length ≤ i ∧ ∀ x ∈ ns, 0 ≤ x ∧ x < 4) nD (fun _ _ => trivial) (by decide) ⟨[], rfl, Nat.le_refl _, fun _ z => by cases z⟩ (fun i x G Hx ys hi sm hD hR y Qt Qf qt qf => ?_) (fun G ys sm hD hR => ?_)
      · obtain ⟨rfl, rfl⟩ := y
        obtain ⟨ns, rfl, hl, hb⟩ := hR
        refine ⟨rfl, _, rfl, _, rfl, _, _, rfl, rfl, by omega, _, _, rfl, rfl, rfl, _, rfl, ?_⟩
        refine ite2 (fun _ => ?_) (fun _ => ?_)
        · refine ⟨_, rfl, qt _ _ (Same.refl _) ⟨ns ++ [0 + (i : Int)], app_ints, by rw [List.length_append]; exact Nat.succ_le_succ hl, fun x hx => ?_⟩⟩
          rcases List.mem_append.mp hx with z | z
          · exact hb x z
          · rw [List.mem_singleton.mp z]; omega
        · exact qf _ (Same.refl _) ⟨ns, rfl, by omega, hb⟩
      · obtain ⟨ns, rfl, hl, hb⟩ := hR
        exact q _ D ns sm nD hD ⟨by omega, fun x hx => by have := hb x hx; omega⟩
end
-- G
/-- a statement by what is asked of one before it -/
theorem ps_via {X : Cx} {st : Stmt} {t t' : TS} (h : PS X st t) (f : ∀ D σ H, t' D σ H → t D σ H) : PS X st t' := ⟨fun pins s σ H D I z => h.run pins s σ H D I (f D σ H z)⟩
/-- a row under way: its elements new, none of them at D -/
def RN (D : Addr) (H0 H : Hp) (as : List Addr) (es : List (List Int)) : Prop := A2 (fun a ns => (a ≠ D ∧ H0 a = none) ∧ IL H a ns) as es
/-- a row, its elements new -/
def RowF (H0 H : Hp) (b : Addr) (els : List (List Int)) : Prop := ∃ as : List Addr, H b = some (.lst (as.map V.ref)) ∧ A2 (fun e ns => H0 e = none ∧ IL H e ns) as els
theorem RN.up {D : Addr} {H0 H H' : Hp} {as : List Addr} {es : List (List Int)} (h : RN D H0 H as es) (s : SameX D H H') : RN D H0 H' as es := h.mono fun _ _ z => ⟨z.1, s _ _ z.1.1 z.2⟩
theorem RN.row {D : Addr} {H0 H : Hp} {as : List Addr} {es : List (List Int)} (h : RN D H0 H as es) (hD : H D = some (.lst (as.map V.ref))) : RowF H0 H D es := ⟨as, hD, h.mono fun _ _ z => ⟨z.1.2, z.2⟩⟩
theorem RN.snoc {D y : Addr} {H0 H H4 : Hp} {as : List Addr} {es : List (List Int)} {e : List Int} {o : HO} (h : RN D H0 H as es) (s : Same H H4) (n : y ≠ D) (n0 : H0 y = none) (hy : IL H4 y e) : RN D H0 (upd H4 D o) (as ++ [y]) (es ++ [e]) :=
  A2.snoc ⟨⟨n, n0⟩, by unfold IL; rw [upd_ne n]; exact hy⟩ (h.up ((sx s).trans SameX.put))
theorem ve_snoc {es : List (List Int)} {e : List Int} (h : ∀ x ∈ es, VE x) (n : VE e) : ∀ x ∈ es ++ [e], VE x := fun x hx => by
  rcases List.mem_append.mp hx with z | z
  · exact h x z
  · rw [List.mem_singleton.mp z]; exact n
section
variable {P : Program} {w : World} {K : PySem.W.Frag} {mg : Str → Option Value} {base : Heap}
theorem RowL.same {H H' : Hp} {b : Addr} {els : List (List Int)} (h : RowL H b els) (s : Same H H') : RowL H' b els := h.lk (K50.lk s)
def OutR (many : Nat) (H : Hp) (Q : VK) : Prop := ∀ H' p els, Same H H' → H p = none → RowF H H' p els → VR many els → Q (.ref p) H'
/-- behind the test: the numbers go with the row -/
def Fit (sc sh : Int) (els : List (List Int)) : Prop := 0 ≤ sh ∧ sh ≤ 1 ∧ sc.natAbs ≤ 2 ∧ ∀ e ∈ els, (e.length : Int) + sh ≤ 13 ∧ ∀ n ∈ e, (sc * n).natAbs ≤ 10 ^ 30
/-! data -/
def dI (ns : List Int) : PyData := .list (ns.map PyData.int)
theorem ints_lay : ∀ ns : List Int, PyData.canLayAll0 (ns.map PyData.int) = true ∧ PyData.depthAll (ns.map PyData.int) = 0
  | [] => ⟨rfl, rfl⟩
  | n :: r => by
    obtain ⟨a, b⟩ := ints_lay r
    refine ⟨?_, ?_⟩
    · show (PyData.canLay0 (.int n) && PyData.canLayAll0 (r.map PyData.int)) = true
      rw [a]; rfl
    · show max (PyData.depth (.int n)) (PyData.depthAll (r.map PyData.int)) = 0
      rw [b]; rfl
theorem lay_dI (ns : List Int) : (dI ns).canLay0 = true := (ints_lay ns).1
theorem dep_dI (ns : List Int) : (dI ns).depth = 1 := by
  show PyData.depthAll (ns.map PyData.int) + 1 = 1
  rw [(ints_lay ns).2]
theorem shaped_dI (ns : List Int) : SeqAt.shaped (dI ns) = true := by
  unfold SeqAt.shaped
  rw [lay_dI, dep_dI]; rfl
theorem eqv_nil (ns : List Int) : PyData.eqv (dI ns) (.list []) = decide (ns = []) := by
  cases ns <;> simp [dI, PyData.eqv, PyData.eqvAll]
theorem dp_ints {K : PySem.W.Frag} {H : Hp} : ∀ ns : List Int, DpAll K H (ns.map V.int) (ns.map PyData.int)
  | [] => .nil
  | n :: r => .cons (.int n) (dp_ints r)
theorem dpI {K : PySem.W.Frag} {H : Hp} {a : Addr} {ns : List Int} (h : SqL K H a (ns.map V.int)) : Dp K H (.ref a) (dI ns) := .lst h (dp_ints ns)
def T1 (K : PySem.W.Frag) : TS := fun D σ H => ∃ (a b : Addr) (k sc sh : Int) (els : List (List Int)), σ = [some (.ref a), some (.int k), some (.ref b), some (.int sc), some (.int sh), none, none, none, none, none, none] ∧ RowL H b els ∧ (∀ e ∈ els, VE e) ∧ els.length ≤ 16 ∧ 0 < els.length ∧ 0 ≤ sh ∧ sh ≤ 1 ∧ sc.natAbs ≤ 2 ∧
  ∀ H' sc' sh', Same H H' → Fit sc' sh' els → D.nx [some (.ref a), some (.int k), some (.ref b), some (.int sc'), some (.int sh'), none, none, none, none, none, none] H'
theorem row_ref {as : List Addr} {j : Nat} {x : V} (h : (as.map V.ref)[j]? = some x) : ∃ r, as[j]? = some r ∧ x = .ref r := by
  rw [List.getElem?_map] at h
  cases e : as[j]? with
  | none => rw [e] at h; cases h
  | some r => rw [e] at h; exact ⟨r, rfl, (Option.some.inj h).symm⟩
theorem row_lists {H : Hp} {as : List Addr} {els : List (List Int)} (h : A2 (IL H) as els) : LM.Lists H (as.map V.ref) (els.map fun e => e.map V.int) := by
  refine ⟨by rw [List.length_map, List.length_map, h.len], fun j zs z => ?_⟩
  rw [List.getElem?_map] at z
  cases e : els[j]? with
  | none => rw [e] at z; cases z
  | some ns =>
    rw [e] at z
    cases z
    obtain ⟨c, hc, hz⟩ := h.get' e
    exact ⟨c, by rw [List.getElem?_map, hc]; rfl, hz⟩
theorem flat_len {els : List (List Int)} {c : Nat} (h : ∀ e ∈ els, e.length ≤ c) : (els.map fun e => e.map V.int).flatten.length ≤ els.length * c := by
  induction els with
  | nil => exact Nat.zero_le _
  | cons e r ih =>
    rw [List.map_cons, List.flatten_cons, List.length_append, List.length_map, List.length_cons, Nat.succ_mul]
    have := ih fun x hx => h x (List.mem_cons_of_mem _ hx)
    have := h e List.mem_cons_self
    omega
theorem flat_map (els : List (List Int)) : (els.map fun e => e.map V.int).flatten = els.flatten.map V.int := by rw [List.map_flatten]
theorem small_flat {els : List (List Int)} (h : ∀ e ∈ els, VE e) (n : els.length ≤ 16) : els.flatten.length ≤ 208 := by
  have := flat_len (c := 13) fun e he => (h e he).1
  rw [flat_map, List.length_map] at this
  omega
theorem repB {b s : Nat} (h : b ≤ 1) : ∃ m, m ≤ s ∧ (List.replicate b ((List.replicate s (0 : Int)).map V.int)).flatten = (List.replicate m (0 : Int)).map V.int := by
  rcases Nat.eq_zero_or_pos b with rfl | z
  · exact ⟨0, Nat.zero_le _, rfl⟩
  · obtain rfl : b = 1 := by omega
    exact ⟨s, Nat.le_refl _, by show (_ ++ []) = _; rw [List.append_nil]⟩
theorem cut_from1 {ns : List Int} : cutV (ns.map V.int) (some 1) none = (ns.drop 1).map V.int := cut_from
theorem ve_drop {e : List Int} {x : Int} {m : Nat} (h : VE e) (hx : x.natAbs ≤ 10 ^ 30) : VE (([x] ++ e.drop 1).take m) := by
  refine ⟨?_, fun n hn => ?_⟩
  · have := h.1
    rw [List.length_take, List.length_append, List.length_drop]
    have : [x].length = 1 := rfl
    omega
  · rcases List.mem_append.mp (List.mem_of_mem_take hn) with z | z
    · rw [List.mem_singleton.mp z]; exact hx
    · exact h.2 n (List.mem_of_mem_drop z)
theorem ve_scale {e : List Int} {sc sh : Int} {m : Nat} {els : List (List Int)} (f : Fit sc sh els) (he : e ∈ els) (hm : m ≤ sh.toNat) : VE (List.replicate m 0 ++ e.map fun n => sc * n) := by
  obtain ⟨f0, f1, f2, f3⟩ := f
  obtain ⟨a, b⟩ := f3 e he
  refine ⟨?_, fun n hn => ?_⟩
  · rw [List.length_append, List.length_replicate, List.length_map]
    omega
  · rcases List.mem_append.mp hn with z | z
    · rw [(List.mem_replicate.mp z).2]; decide
    · obtain ⟨x, hx, rfl⟩ := List.mem_map.mp z
      exact b x hx
theorem mem_set2 {es : List (List Int)} {j : Nat} {y : List Int} (h : ∀ e ∈ es, VE e) (hy : VE y) : ∀ e ∈ es.set j y, VE e := fun e he => by
  rcases mem_set he with z | z
  · exact h e z
  · rw [z]; exact hy
def sp_law_likely : Sp := fun vs H Q _ => ∃ (a b : Addr) (ds : List Int) (k : Int) (els : List (List Int)) (many : Nat), vs = [.ref a, .int k, .ref b] ∧ IL H a ds ∧ 0 ≤ k ∧ RowL H b els ∧ VR many els ∧ 0 < many ∧ many ≤ 16 ∧ OutR many H Q
theorem ok_law_likely (T : Txt K mg) : FnOk P w K mg base CX0 3 T.law_likely.a T.law_likely.fd ["draws", "k", "row"] sp_law_likely := by
  refine T.law_likely.F.ok sc_law_likely (fun vs H Q E h => ?_) (fun cdv A outer s H vs Q E hr h => ?_)
  · obtain ⟨a, b, ds, k, els, many, rfl, _⟩ := h
    rfl
  · obtain ⟨a, b, ds, k, els, many, rfl, ha, hk, hb, vr, hm0, hm, q⟩ := h
    refine ⟨_, (pss_cons (ps_set (i := 3) sc_law_likely.nd rfl (.inr rfl) (pe_ix ix_list (pe_lst (pa_cons pe_int (pa_cons (pe_un un_neg pe_int) (pa_cons pe_int pa_nil)))) (pe_call (ok_law_mix T) (hr.mono (by decide)) (by rfl) T.law_mix.g T.law_mix.F.kp T.law_mix.b .nil pass0 (pa_cons (pv 0) (pa_cons (pv 1) (pa_cons pe_int pa_nil)))) (fun _ _ => rfl)))
      (pss_cons (ps_set (i := 4) sc_law_likely.nd rfl (.inr rfl) (pe_op op_fdiv (pe_call (ok_law_mix T) (hr.mono (by decide)) (by rfl) T.law_mix.g T.law_mix.F.kp T.law_mix.b .nil pass0 (pa_cons (pv 0) (pa_cons (pe_op op_add (pv 1) pe_int) (pa_cons pe_int pa_nil)))) pe_int))
      (pss_cons (ps_via (t' := T1 K) (ps_if (PW.pt (pw_or (pt_cmpR op_gt (pe_op op_add (pe_callB (cr_max rfl) (by rfl) T.m_max (by decide +kernel) (pa_cons (pe_op op_cat (pe_lst (pa_cons pe_int pa_nil)) (pe_lc (own := [("element", 8)]) rfl sc_law_likely.nd (pi_list (pv 2)) (blkOk_by (N := ["draws", "k", "row", "scale", "shift", "out", "turn", "j", "element", "number", "n"]) (sc := defScope s_law_likely) (by decide +kernel)) (fun _ _ _ _ _ => (pg_name (i := 8) sc_law_likely.nd rfl (.inl rfl))) (fun _ _ _ _ _ => pts_nil) (fun _ _ _ _ _ => (pe_callB (id := "len") (r := rLenS K) call_lenC (by rfl) T.m_len (by decide +kernel) (pa_cons (pv 8) pa_nil))))) pa_nil)) (pv 4)) pe_int (nomark _)) (pw_or1 (pt_cmpR op_gt (pe_callB (cr_max rfl) (by rfl) T.m_max (by decide +kernel) (pa_cons (pe_op op_cat (pe_lst (pa_cons pe_int pa_nil)) (pe_lc (own := [("n", 10)]) rfl sc_law_likely.nd (pi_list (pe_callB (LM.cr_sumL rfl) (by rfl) T.m_sum (by decide +kernel) (pa_cons (pv 2) (pa_cons (pe_lst pa_nil) pa_nil)))) (blkOk_by (N := ["draws", "k", "row", "scale", "shift", "out", "turn", "j", "element", "number", "n"]) (sc := defScope s_law_likely) (by decide +kernel)) (fun _ _ _ _ _ => (pg_name (i := 10) sc_law_likely.nd rfl (.inl rfl))) (fun _ _ _ _ _ => pts_nil) (fun _ _ _ _ _ => (pe_callB call_abs (by rfl) T.m_abs (by decide +kernel) (pa_cons (pv 10) pa_nil))))) pa_nil)) pe_int (nomark _)))))
        (pss_cons (ps_set (i := 3) sc_law_likely.nd rfl (.inr rfl) pe_int)
        (pss_one (ps_set (i := 4) sc_law_likely.nd rfl (.inr rfl) pe_int)))
        pss_nil) ?t1)
      (pss_cons (ps_setLc (i := 5) (own := [("element", 8)]) rfl sc_law_likely.nd rfl rfl (sw_true rfl rfl rfl (by decide +kernel)) (pi_list (pv 2)) (blkOk_by (N := ["draws", "k", "row", "scale", "shift", "out", "turn", "j", "element", "number", "n"]) (sc := defScope s_law_likely) (by decide +kernel)) (fun _ _ _ _ _ => (pg_name (i := 8) sc_law_likely.nd rfl (.inl rfl))) (fun _ _ _ _ _ => pts_nil) (fun _ _ _ _ _ => (pe_op op_cat (pe_op op_rep (pe_op op_rep (pe_lst (pa_cons pe_int pa_nil)) (pv 4)) (pe_callTy call_int1 (by rfl) T.m_int (by decide +kernel) (pa_cons (pe_cmpR (r := rNeD K) (op_neD hr.units) (pv 8) (pe_lst pa_nil) (nomark _)) pa_nil))) (pe_lc (wi := iList K _) (own := [("number", 9)]) rfl sc_law_likely.nd (pi_list (pv 8)) (blkOk_by (N := ["draws", "k", "row", "scale", "shift", "out", "turn", "j", "element", "number", "n"]) (sc := { kind := .function, names := [(".0", .local), ("element", .local), ("int", .globalImplicit), ("scale", .cell), ("shift", .cell)], isGenerator := false, isCoroutine := false, more := [] }) (by decide +kernel)) (fun _ _ _ _ _ => (pg_name (i := 9) sc_law_likely.nd rfl (.inl rfl))) (fun _ _ _ _ _ => pts_nil) (fun _ _ _ _ _ => (pe_op op_mulW (pv 3) (pv 9)))))))
      (pss_cons (ps_for PassesOwn.never rfl (pi_range1 (by rfl) T.m_range (pa_cons (pe_op op_add pe_int (pe_call (ok_law_mix T) (hr.mono (by decide)) (by rfl) T.law_mix.g T.law_mix.F.kp T.law_mix.b .nil pass0 (pa_cons (pv 0) (pa_cons (pe_op op_add (pv 1) pe_int) (pa_cons pe_int pa_nil))))) pa_nil)) (pg_name (i := 6) sc_law_likely.nd rfl (.inl rfl))
        (pss_cons (ps_set (i := 7) sc_law_likely.nd rfl (.inl rfl) (pe_call (ok_law_mix T) (hr.mono (by decide)) (by rfl) T.law_mix.g T.law_mix.F.kp T.law_mix.b .nil pass0 (pa_cons (pv 0) (pa_cons (pe_op op_add (pe_op op_add (pv 1) pe_int) (pe_op op_mulW pe_int (pv 6))) (pa_cons (pe_callB call_len_seq (by rfl) T.m_len (by decide +kernel) (pa_cons (pv 2) pa_nil)) pa_nil)))))
        (pss_one (ps_asg (pe_call (ok_law_trimmed T) (hr.mono (by decide)) (by rfl) T.law_trimmed.g T.law_trimmed.F.kp T.law_trimmed.b .nil pass0 (pa_cons (pe_op op_cat (pe_lst (pa_cons (pe_op op_sub (pe_call (ok_law_mix T) (hr.mono (by decide)) (by rfl) T.law_mix.g T.law_mix.F.kp T.law_mix.b .nil pass0 (pa_cons (pv 0) (pa_cons (pe_op op_add (pe_op op_add (pv 1) pe_int) (pe_op op_mulW pe_int (pv 6))) (pa_cons pe_int pa_nil)))) pe_int) pa_nil)) (pe_slice sl_list (pe_ix ix_list (pv 5) (pv 7) (fun _ _ => rfl)) (po_some pe_int) po_none)) pa_nil)) (pg_sub (pv 5) (pv 7) set_list)))))
      (pss_one (ps_ret (pv 5)))))))), ?_⟩
    case t1 =>
      intro D σ H h
      obtain ⟨a, b, k, sc, sh, els, rfl, hb, hv, hn, hp, h0, h1, h2, nx⟩ := h
      have one : Fit 1 0 els := ⟨by decide, by decide, by decide, fun e he => ⟨by have := (hv e he).1; omega, fun n hn => by rw [Int.one_mul]; exact (hv e he).2 n hn⟩⟩
      obtain ⟨as, hbl, hA⟩ := hb
      have la := hA.len
      refine ⟨by show 1 ≤ sizeLine; decide, fun l nl => ?_⟩
      have s1 := same_upd nl (o := .lst [.int 0])
      refine ⟨.ref b, rfl, b, rfl, ⟨_, .of (s1 _ _ hbl)⟩, fun D1 nD1 => ?_⟩
      refine lc_fm (walk_list (xs := as.map V.ref)) els (fun e => some (e.length : Int)) (fun _ v n => v = .int n) (fun _ _ _ _ _ z => z) (by rw [List.length_map, la]) nD1 (fun H' s => s.seq (.of (s1 _ _ hbl))) (small' (by rw [List.length_map]; omega)) (fun i x H' Hx ys e he sm hD y Qt Qf qt qf => ?_) (fun G ys sm hD hR => ?_)
      · obtain ⟨rfl, hx⟩ := y
        obtain ⟨c, hc, rfl⟩ := row_ref hx
        obtain ⟨e', he', hI⟩ := hA.get hc
        obtain rfl := Option.some.inj (he.symm.trans he')
        exact ⟨rfl, _, rfl, c, _, rfl, .inl ((hI.same s1).same sm).sq, qt _ _ _ rfl (Same.refl _) (by rw [List.length_map])⟩
      rw [a2_eq hR, fm_some, List.map_map] at hD
      refine ⟨l, D1, _, _, rfl, rfl, sm _ _ upd_same, hD, by rw [List.length_map]; exact small (by show 1 + _ ≤ _; omega), fun p np => ?_⟩
      have s2 : Same H (upd G p (.lst ([V.int 0] ++ els.map ((fun n => V.int n) ∘ fun e => (e.length : Int))))) := s1.trans (sm.trans (same_upd np))
      refine ⟨p, 0 :: els.map (fun e => (e.length : Int)), rfl, .of (by rw [upd_same]; show some (HO.lst (V.int 0 :: _)) = some (HO.lst (V.int 0 :: _)); rw [List.map_map]; rfl), by rw [List.length_cons]; omega, fun m hm hle => ?_⟩
      refine ⟨_, rfl, _, _, rfl, rfl, _, _, rfl, rfl, _, rfl, ?_⟩
      refine ite2 (fun h => iteT (nx _ 1 0 s2 one)) (fun hno => ?_)
      have hlen : ∀ e ∈ els, (e.length : Int) + sh ≤ 13 := fun e he => by
        have := hle _ (List.mem_cons_of_mem _ (List.mem_map.mpr ⟨e, he, rfl⟩))
        have : ¬ (13 < m + sh) := fun z => hno (decide_eq_true z)
        omega
      refine ⟨by show 1 ≤ sizeLine; decide, fun l2 nl2 => ?_⟩
      have s3 := s2.trans (same_upd nl2 (o := .lst [.int 0]))
      refine ⟨.ref b, rfl, by show 0 ≤ sizeLine; decide, fun l3 nl3 => ?_⟩
      have s4 := s3.trans (same_upd nl3 (o := .lst []))
      refine ⟨b, l3, _, [], els.map fun e => e.map V.int, rfl, .of (s4 _ _ hbl), upd_same, row_lists (hA.mono fun _ _ z => z.same s4), ?_, fun e => ?_, fun p2 np2 => ?_⟩
      · rw [flat_map, List.length_map]
        have := small_flat hv hn
        exact small (by show 0 + _ ≤ _; omega)
      · have : as.length = 0 := by rw [← List.length_map (f := V.ref), e]; rfl
        omega
      rw [List.nil_append, flat_map]
      have s5 := s4.trans (same_upd np2 (o := .lst (els.flatten.map V.int)))
      refine ⟨p2, rfl, ⟨_, .of upd_same⟩, fun D2 nD2 => ?_⟩
      refine lc_fm (walk_list (xs := els.flatten.map V.int)) els.flatten (fun n => some (if n < 0 then -n else n)) (fun _ v n => v = .int n) (fun _ _ _ _ _ z => z) (by rw [List.length_map]) nD2 (fun H' s => s.seq (.of upd_same)) (small' (by rw [List.length_map]; have := small_flat hv hn; omega)) (fun i x H' Hx ys e he sm hD y Qt Qf qt qf => ?_) (fun G2 ys sm2 hD2 hR2 => ?_)
      · obtain ⟨rfl, hx⟩ := y
        rw [List.getElem?_map, he] at hx
        obtain rfl := Option.some.inj hx
        exact ⟨rfl, _, rfl, _, rfl, qt _ _ _ rfl (Same.refl _) rfl⟩
      rw [a2_eq hR2, fm_some, List.map_map] at hD2
      have l2G : G2 l2 = some (.lst [.int 0]) := sm2 _ _ (by
        refine same_upd np2 _ _ (same_upd nl3 _ _ upd_same))
      refine ⟨l2, D2, _, _, rfl, rfl, l2G, hD2, by rw [List.length_map]; have := small_flat hv hn; exact small (by show 1 + _ ≤ _; omega), fun p3 np3 => ?_⟩
      have s6 : Same H (upd G2 p3 (.lst ([V.int 0] ++ els.flatten.map ((fun n => V.int n) ∘ fun n => if n < 0 then -n else n)))) := s5.trans (sm2.trans (same_upd np3))
      refine ⟨p3, 0 :: els.flatten.map (fun n => if n < 0 then -n else n), rfl, .of (by rw [upd_same]; show some (HO.lst (V.int 0 :: _)) = some (HO.lst (V.int 0 :: _)); rw [List.map_map]; rfl), by rw [List.length_cons]; omega, fun m2 hm2 hle2 => ?_⟩
      refine ⟨_, _, rfl, rfl, _, rfl, ?_⟩
      refine ite2 (fun h => nx _ 1 0 s6 one) (fun hno2 => nx _ sc sh s6 ⟨h0, h1, h2, fun e he => ⟨hlen e he, fun n hn => ?_⟩⟩)
      have := hle2 _ (List.mem_cons_of_mem _ (List.mem_map.mpr ⟨n, List.mem_flatten.mpr ⟨e, he, hn⟩, rfl⟩))
      have h4 : ¬ (400000 < m2) := fun z => hno2 (decide_eq_true z)
      have h5 : n.natAbs ≤ 400000 := by split at this <;> omega
      rw [Int.natAbs_mul]
      exact Nat.le_trans (Nat.mul_le_mul h2 h5) (by decide)
    refine ⟨_, rfl, by show 3 ≤ sizeLine; decide, fun l0 n0 => ?_⟩
    have s0 := same_upd n0 (o := .lst [.int 1, .int (-1), .int 2])
    refine ⟨.ref a, rfl, _, rfl, a, ds, _, _, rfl, ha.same s0, hk, by decide, fun r0 p0 u0 => ?_⟩
    have hlt : r0.toNat < [(1 : Int), -1, 2].length := by show _ < 3; omega
    refine ⟨l0, _, _, _, rfl, rfl, .of upd_same, at_map' (ns := [1, -1, 2]) (m := r0.toNat) (by omega) hlt, ?_⟩
    have hsc : (cf [1, -1, 2] r0.toNat).natAbs ≤ 2 := (by decide : ∀ x ∈ [(1 : Int), -1, 2], x.natAbs ≤ 2) _ (mem_at (at_map hlt))
    generalize cf [1, -1, 2] r0.toNat = sc at hsc
    refine ⟨.ref a, rfl, _, rfl, _, _, rfl, rfl, a, ds, _, _, rfl, ha.same s0, by omega, by decide, fun r1 p1 u1 => ?_⟩
    refine ⟨_, _, rfl, rfl, ⟨by decide, by decide⟩, ?_⟩
    refine ⟨a, b, k, sc, r1 / 2, els, rfl, hb.same s0, vr.2, by have := vr.1; omega, by have := vr.1; omega, by omega, by omega, hsc, fun G sc sh sG fit => ?_⟩
    have s1 := s0.trans sG
    obtain ⟨rs, hbG, hrs⟩ := hb.same s1
    refine ⟨.ref b, rfl, b, rfl, ⟨_, .of hbG⟩, fun D nD => ?_⟩
    have lrs := hrs.len
    have lel := vr.1
    refine lc_inv (walk_list (xs := rs.map V.ref)) (fun i G' ys => ∃ (as : List Addr) (es : List (List Int)), ys = as.map V.ref ∧ RN D H G' as es ∧ es.length = i ∧ ∀ e ∈ es, VE e) nD (fun H' s => s.seq (.of hbG)) (small' (by rw [List.length_map]; omega)) ⟨[], [], rfl, .nil, rfl, fun _ z => by cases z⟩ (fun i x G1 Hx ys hi sm hD hR y Qt Qf qt qf => ?_) (fun G1 ys sm hD hR => ?_)
    · obtain ⟨rfl, hx⟩ := y
      obtain ⟨c, hc, rfl⟩ := row_ref hx
      obtain ⟨e, he, hI⟩ := hrs.get hc
      obtain ⟨as, es, rfl, hrn, hlen, hve⟩ := hR
      have hee := mem_at he
      obtain ⟨f0, f1, f2, f3⟩ := fit
      refine ⟨rfl, by show 1 ≤ sizeLine; decide, fun l1 n1 => ?_⟩
      have t1 := same_upd n1 (o := .lst [.int 0])
      refine ⟨_, rfl, l1, sh, _, rfl, rfl, upd_same, by omega, by omega, by show 1 * _ ≤ _; exact small (by omega), fun l2 n2 => ?_⟩
      rw [rep0]
      have t2 := t1.trans (same_upd n2 (o := .lst ((List.replicate sh.toNat (0 : Int)).map V.int)))
      refine ⟨.ref c, rfl, by show 0 ≤ sizeLine; decide, fun l3 n3 => ?_⟩
      have t3 := t2.trans (same_upd n3 (o := .lst []))
      refine ⟨dI e, .list [], dpI ((hI.same sm).same t3).sq, .lst (.of upd_same) .nil, shaped_dI e, rfl, ?_⟩
      refine .inr ⟨_, rfl, ?_⟩
      obtain ⟨bi, eb, b0, b1⟩ : ∃ bi : Int, (if (!PyData.eqv (dI e) (.list [])) = true then (1 : Int) else 0) = bi ∧ 0 ≤ bi ∧ bi ≤ 1 := ⟨_, rfl, by split <;> omega, by split <;> omega⟩
      rw [eb]
      refine ⟨l2, bi, _, rfl, rfl, same_upd n3 _ _ upd_same, by omega, by omega, by rw [List.length_map, List.length_replicate]; exact small (Nat.le_trans (Nat.mul_le_mul (show _ ≤ 1 by omega) (show _ ≤ 1 by omega)) (by decide)), fun l4 n4 => ?_⟩
      obtain ⟨m, hm1, em⟩ := repB (b := bi.toNat) (s := sh.toNat) (by omega)
      rw [em]
      have t4 := t3.trans (same_upd n4 (o := .lst ((List.replicate m (0 : Int)).map V.int)))
      refine ⟨.ref c, rfl, c, rfl, ⟨_, ((hI.same sm).same t4).sq⟩, fun D2 nD2 => ?_⟩
      have ve := vr.2 e hee
      refine lc_fm (walk_list (xs := e.map V.int)) e (fun n => some (sc * n)) (fun _ v n => v = .int n) (fun _ _ _ _ _ z => z) (by rw [List.length_map]) nD2 (fun H' s => s.seq (((hI.same sm).same t4).sq)) (small' (by rw [List.length_map]; have := ve.1; omega)) (fun i2 x2 H2 Hx2 ys2 n hn sm2 hD2 y2 Qt2 Qf2 qt2 qf2 => ?_) (fun G2 ys2 sm2 hD2 hR2 => ?_)
      · obtain ⟨rfl, hx2⟩ := y2
        rw [List.getElem?_map, hn] at hx2
        obtain rfl := Option.some.inj hx2
        have := ve.2 n (mem_at hn)
        exact ⟨rfl, _, rfl, _, rfl, _, _, rfl, rfl, wide_mul (a := 2) (b := 100) (by omega) (Nat.lt_of_le_of_lt this (by decide)) (by decide) (by decide) (by decide), qt2 _ _ _ rfl (Same.refl _) rfl⟩
      rw [a2_eq hR2, fm_some, List.map_map] at hD2
      refine ⟨l4, D2, _, _, rfl, rfl, sm2 _ _ upd_same, hD2, by rw [List.length_map, List.length_map, List.length_replicate]; have := ve.1; exact small (by omega), fun p np => ?_⟩
      have t5 := t4.trans (sm2.trans (same_upd np (o := .lst ((List.replicate m (0 : Int)).map V.int ++ e.map ((fun n => V.int n) ∘ fun n => sc * n)))))
      have pD : p ≠ D := fun z => by
        have := (t4.trans sm2) D _ hD
        rw [← z, np] at this
        cases this
      refine qt _ _ t5 ⟨as ++ [p], es ++ [List.replicate m 0 ++ e.map fun n => sc * n], by rw [List.map_append]; rfl, hrn.snoc t5 pD ((s1.trans (sm.trans (t4.trans sm2))).free np) (by unfold IL; rw [upd_same, List.map_append, List.map_map]), by rw [List.length_append, hlen]; rfl, ve_snoc hve (ve_scale ⟨f0, f1, f2, f3⟩ hee hm1)⟩
    obtain ⟨as, es, rfl, hrn, hlen, hve⟩ := hR
    rw [List.length_map, lrs, lel] at hlen
    have s2 := s1.trans sm
    have nD0 : H D = none := s1.free nD
    refine ⟨.ref a, rfl, _, rfl, _, _, rfl, rfl, a, ds, _, _, rfl, ha.same s2, by omega, by decide, fun r2 p2 u2 => ?_⟩
    refine ⟨_, _, rfl, rfl, 1 + r2, rfl, by omega, by omega, ?_⟩
    refine for_range (n := (1 + r2).toNat) (lo := 0) (fun i σ G' => Same H G' ∧ ∃ (as : List Addr) (es : List (List Int)) (v6 v7 v8 v9 v10 : Option V), σ = [some (.ref a), some (.int k), some (.ref b), some (.int sc), some (.int sh), some (.ref D), v6, v7, v8, v9, v10] ∧ G' D = some (.lst (as.map V.ref)) ∧ RN D H G' as es ∧ es.length = many ∧ ∀ e ∈ es, VE e) ⟨s2, as, es, _, _, _, _, _, rfl, hD, hrn, hlen, hve⟩ (fun i σ G' hi hP => ?_) (fun σ G' hP => ?_)
    · obtain ⟨sm, as, es, v6, v7, v8, v9, v10, rfl, hD, hrn, hlen, hve⟩ := hP
      obtain ⟨rs, hbG, hrs⟩ := hb.same sm
      have lb : (rs.map V.ref).length = many := by rw [List.length_map, hrs.len, lel]
      have wm : CMulW 2 (0 + (i : Int)) := wide_mul (a := 2) (b := 100) (by decide) (Nat.lt_of_le_of_lt (show _ ≤ 4 by omega) (by decide)) (by decide) (by decide) (by decide)
      refine ⟨.ref a, rfl, _, rfl, _, _, rfl, rfl, _, rfl, _, _, rfl, rfl, wm, _, _, rfl, rfl, .ref b, rfl, b, _, rfl, .inl (.of hbG), ?_⟩
      rw [lb]
      refine ⟨a, ds, _, _, rfl, ha.same sm, by omega, by omega, fun r3 p3 u3 => ?_⟩
      obtain ⟨j, ej, hj⟩ : ∃ j : Nat, r3 = (j : Int) ∧ j < many := ⟨r3.toNat, by omega, by omega⟩
      subst ej
      obtain ⟨e, he⟩ := some_at (xs := es) (i := j) (by omega)
      obtain ⟨c, hc, ⟨cD, _⟩, hI⟩ := hrn.get' he
      refine ⟨.ref a, rfl, _, rfl, _, _, rfl, rfl, _, rfl, _, _, rfl, rfl, wm, _, _, rfl, rfl, a, ds, _, _, rfl, ha.same sm, by omega, by decide, fun r4 p4 u4 => ?_⟩
      refine ⟨_, _, rfl, rfl, by show 1 ≤ sizeLine; decide, fun l5 n5 => ?_⟩
      have t5 := same_upd n5 (o := .lst [.int (r4 - 2)])
      refine ⟨.ref D, rfl, _, rfl, D, _, _, _, rfl, rfl, .of (t5 _ _ hD), atI_nat (by rw [List.getElem?_map, hc]; rfl), ?_⟩
      refine ⟨_, rfl, c, _, rfl, (hI.same t5).sq, fun l6 n6 => ?_⟩
      rw [cut_from1]
      have t6 := t5.trans (same_upd n6 (o := .lst ((e.drop 1).map V.int)))
      have ve := hve e (mem_at he)
      refine ⟨l5, l6, _, _, rfl, rfl, same_upd n6 _ _ upd_same, upd_same, by rw [List.length_map, List.length_drop]; have := ve.1; exact small (by show 1 + _ ≤ _; omega), fun l7 n7 => ?_⟩
      have t7 := t6.trans (same_upd n7 (o := .lst ([V.int (r4 - 2)] ++ (e.drop 1).map V.int)))
      refine ⟨l7, [r4 - 2] ++ e.drop 1, rfl, .of (by rw [upd_same, List.map_append]; rfl), by rw [List.length_append, List.length_drop]; have := ve.1; show 1 + _ ≤ _; omega, fun G3 p m s3 np hp => ?_⟩
      have t8 := t7.trans s3
      have pD : p ≠ D := fun z => by
        have := t7 D _ hD
        rw [← z, np] at this
        cases this
      refine ⟨.ref D, rfl, _, rfl, D, _, _, j, rfl, rfl, t8 _ _ hD, ix_ok rfl (by rw [List.length_map, hrn.len]; omega), ?_⟩
      refine ⟨same_over (sm.trans t8) nD0, as.set j p, es.set j (([r4 - 2] ++ e.drop 1).take m), _, _, _, _, _, rfl, ?_, ?_, by rw [List.length_set]; exact hlen, mem_set2 hve (ve_drop ve (Nat.le_trans (show _ ≤ 5 by omega) (by decide)))⟩
      · rw [upd_same, List.map_set]
      · exact A2.set ⟨⟨pD, (sm.trans t7).free np⟩, by unfold IL; rw [upd_ne pD]; exact hp⟩ (hrn.up ((sx t8).trans SameX.put)) j
    · obtain ⟨sm, as, es, v6, v7, v8, v9, v10, rfl, hD, hrn, hlen, hve⟩ := hP
      exact ⟨.ref D, rfl, q G' D es sm nD0 (hrn.row hD) ⟨hlen, hve⟩⟩
end
-- H
section
variable {P : Program} {w : World} {K : PySem.W.Frag} {mg : Str → Option Value} {base : Heap}
/-! ### grids under way: the list of rows at g, of exact ones at x -/
def Of (g x : Addr) (c : Addr) : Prop := c ≠ g ∧ c ≠ x
def SP (g x : Addr) (H H' : Hp) : Prop := ∀ c o, Of g x c → H c = some o → H' c = some o
theorem spS {g x : Addr} {H H' : Hp} (s : Same H H') : SP g x H H' := fun c o _ h => s c o h
theorem SP.trans {g x : Addr} {H H1 H2 : Hp} (a : SP g x H H1) (b : SP g x H1 H2) : SP g x H H2 := fun c o n h => b c o n (a c o n h)
theorem spG {g x : Addr} {H : Hp} {o : HO} : SP g x H (upd H g o) := fun c u n h => by rw [upd_ne n.1]; exact h
theorem spX {g x : Addr} {H : Hp} {o : HO} : SP g x H (upd H x o) := fun c u n h => by rw [upd_ne n.2]; exact h
def XR (g x : Addr) (H : Hp) (v : V) (els : List (List Int)) : Prop := ∃ (b : Addr) (as : List Addr), v = .ref b ∧ Of g x b ∧ H b = some (.lst (as.map V.ref)) ∧ A2 (fun e ns => Of g x e ∧ IL H e ns) as els
def XG (K : PySem.W.Frag) (g x : Addr) (H : Hp) (v : V) (r : Rw) : Prop := ∃ (t : Addr) (u : V), v = .ref t ∧ Of g x t ∧ H t = some (.tup [.str (kS r.1), u]) ∧ XR g x H u r.2
theorem XR.up {g x : Addr} {H H' : Hp} {v : V} {els : List (List Int)} (h : XR g x H v els) (s : SP g x H H') : XR g x H' v els := let ⟨b, as, e, n, hb, r⟩ := h; ⟨b, as, e, n, s _ _ n hb, r.mono fun _ _ z => ⟨z.1, s _ _ z.1 z.2⟩⟩
theorem XG.up {g x : Addr} {H H' : Hp} {v : V} {r : Rw} (h : XG K g x H v r) (s : SP g x H H') : XG K g x H' v r := let ⟨t, u, e, n, ht, r⟩ := h; ⟨t, u, e, n, s _ _ n ht, r.up s⟩
theorem XG.row {g x : Addr} {H : Hp} {v : V} {r : Rw} (h : XG K g x H v r) : RwV K H v r := let ⟨t, u, e, n, ht, b, as, eu, nb, hb, r⟩ := h; ⟨t, b, e, .inl (.inl (eu ▸ ht)), as, hb, r.mono fun _ _ z => z.2⟩
theorem of_new {g x c : Addr} {H : Hp} (hg : H g ≠ none) (hx : H x ≠ none) (h : H c = none) : Of g x c := ⟨fun z => hg (z ▸ h), fun z => hx (z ▸ h)⟩
theorem XR.of {g x p : Addr} {H H' : Hp} {els : List (List Int)} (hg : H g ≠ none) (hx : H x ≠ none) (hp : H p = none) (h : RowF H H' p els) : XR g x H' (.ref p) els := let ⟨as, e, r⟩ := h; ⟨p, as, rfl, of_new hg hx hp, e, r.mono fun _ _ z => ⟨of_new hg hx z.1, z.2⟩⟩
theorem RowL.ofX {g x : Addr} {H : Hp} {v : V} {els : List (List Int)} (h : XR g x H v els) : ∃ b, v = .ref b ∧ RowL H b els := let ⟨b, as, e, n, hb, r⟩ := h; ⟨b, e, as, hb, r.mono fun _ _ z => z.2⟩
/-- the state of the loop -/
abbrev SG (a : Addr) (k : Int) (many : Nat) (g x : Addr) (sh : Int) (v6 v7 v8 v9 : Option V) : L2.St := [some (.ref a), some (.int k), some (.int (many : Nat)), some (.ref g), some (.ref x), some (.int sh), v6, v7, v8, v9]
def T3 (a : Addr) (ds : List Int) (many : Nat) : TS := fun D σ H => ∃ (k sh t : Int) (g x : Addr) (v6 v8 v9 : Option V), σ = SG a k many g x sh v6 (some (.int t)) v8 v9 ∧ IL H a ds ∧ 0 ≤ t ∧ many ≤ 16 ∧
  ∀ H' p els v9, Same H H' → H p = none → RowF H H' p els → VR many els → D.nx (SG a k many g x sh v6 (some (.int t)) (some (.ref p)) v9) H'
def T2 (a : Addr) (ds : List Int) (many : Nat) : TS := fun D σ H => ∃ (k sh t : Int) (g x : Addr) (v6 v8 v9 : Option V) (zs : List V) (ess : List (List (List Int))), σ = SG a k many g x sh v6 (some (.int t)) v8 v9 ∧ IL H a ds ∧ 0 ≤ t ∧ 0 < many ∧ many ≤ 16 ∧
  H x = some (.lst zs) ∧ A2 (XR g x H) zs ess ∧ ess.length ≤ 16 ∧ (∀ e ∈ ess, VR many e) ∧
  ∀ H' p els v9, Same H H' → H p = none → RowF H H' p els → VR many els → D.nx (SG a k many g x sh v6 (some (.int t)) (some (.ref p)) v9) H'
def sp_law_grid (K : PySem.W.Frag) : Sp := fun vs H Q _ => ∃ (a : Addr) (ds : List Int) (k : Int) (many : Nat), vs = [.ref a, .int k, .int (many : Nat)] ∧ IL H a ds ∧ 0 ≤ k ∧ many ≤ 16 ∧ ∀ H' g rs, Same H H' → GR K H' g rs → VG many rs → Q (.ref g) H'
theorem ok_law_grid (T : Txt K mg) : FnOk P w K mg base CX0 4 T.law_grid.a T.law_grid.fd ["draws", "k", "many"] (sp_law_grid K) := by
  refine T.law_grid.F.ok sc_law_grid (fun vs H Q E h => ?_) (fun cdv A outer s H vs Q E hr h => ?_)
  · obtain ⟨a, ds, k, many, rfl, _⟩ := h
    rfl
  · obtain ⟨a, ds, k, many, rfl, ha, hk, hm, q⟩ := h
    refine ⟨_, (pss_cons (ps_set (i := 3) sc_law_grid.nd rfl (.inl rfl) (pe_lst pa_nil))
      (pss_cons (ps_set (i := 4) sc_law_grid.nd rfl (.inl rfl) (pe_lst pa_nil))
      (pss_cons (ps_set (i := 5) sc_law_grid.nd rfl (.inl rfl) (pe_call (ok_law_mix T) (hr.mono (by decide)) (by rfl) T.law_mix.g T.law_mix.F.kp T.law_mix.b .nil pass0 (pa_cons (pv 0) (pa_cons (pv 1) (pa_cons pe_int pa_nil)))))
      (pss_cons (ps_for PassesOwn.never rfl (pi_range1 (by rfl) T.m_range (pa_cons (pv 2) pa_nil)) (pg_name (i := 6) sc_law_grid.nd rfl (.inl rfl))
        (pss_cons (ps_set (i := 7) sc_law_grid.nd rfl (.inr rfl) (pe_op op_add (pe_op op_add (pv 1) pe_int) (pe_op op_mul pe_int (pv 6))))
        (pss_one (ps_if (pt_cmpR op_lt (pe_call (ok_law_mix T) (hr.mono (by decide)) (by rfl) T.law_mix.g T.law_mix.F.kp T.law_mix.b .nil pass0 (pa_cons (pv 0) (pa_cons (pv 7) (pa_cons pe_int pa_nil)))) (pv 5) (nomark _))
          (pss_cons (ps_via (t' := T2 a ds many) (ps_if (PW.pt (pw_and (pt_cmpR op_gt (pe_callB call_len_seq (by rfl) T.m_len (by decide +kernel) (pa_cons (pv 4) pa_nil)) pe_int (nomark _)) (pw_and1 (pt_cmpR op_eq (pe_call (ok_law_mix T) (hr.mono (by decide)) (by rfl) T.law_mix.g T.law_mix.F.kp T.law_mix.b .nil pass0 (pa_cons (pv 0) (pa_cons (pe_op op_add (pv 7) pe_int) (pa_cons pe_int pa_nil)))) pe_int (nomark _)))))
            (pss_one (ps_set (i := 8) sc_law_grid.nd rfl (.inl rfl) (pe_call (ok_law_likely T) (hr.mono (by decide)) (by rfl) T.law_likely.g T.law_likely.F.kp T.law_likely.b .nil pass0 (pa_cons (pv 0) (pa_cons (pe_op op_add (pv 7) pe_int) (pa_cons (pe_ix ix_list (pv 4) (pe_call (ok_law_mix T) (hr.mono (by decide)) (by rfl) T.law_mix.g T.law_mix.F.kp T.law_mix.b .nil pass0 (pa_cons (pv 0) (pa_cons (pe_op op_add (pv 7) pe_int) (pa_cons (pe_callB call_len_seq (by rfl) T.m_len (by decide +kernel) (pa_cons (pv 4) pa_nil)) pa_nil)))) (fun _ _ => rfl)) pa_nil))))))
            (pss_one (ps_via (t' := T3 a ds many) (ps_setLc (i := 8) (own := [("j", 9)]) rfl sc_law_grid.nd rfl rfl (sw_true rfl rfl rfl (by decide +kernel)) (pi_range1 (by rfl) T.m_range (pa_cons (pv 2) pa_nil)) (blkOk_by (N := ["draws", "k", "many", "grid", "exact", "share", "i", "at", "row", "j"]) (sc := defScope s_law_grid) (by decide +kernel)) (fun _ _ _ _ _ => (pg_name (i := 9) sc_law_grid.nd rfl (.inl rfl))) (fun _ _ _ _ _ => pts_nil) (fun _ _ _ _ _ => (pe_call (ok_law_element T) (hr.mono (by decide)) (by rfl) T.law_element.g T.law_element.F.kp T.law_element.b .nil pass0 (pa_cons (pv 0) (pa_cons (pe_op op_add (pe_op op_add (pv 7) pe_int) (pe_op op_mul pe_int (pv 9))) (pa_cons pe_int pa_nil)))))) ?t3))) ?t2)
          (pss_cons (ps_expr (pe_bm PySem.F.plainAttrs_list PySem.F.slot_list_append PySem.F.type_list_append mt_append (pv 4) (pa_cons (pv 8) pa_nil)))
          (pss_one (ps_expr (pe_bm PySem.F.plainAttrs_list PySem.F.slot_list_append PySem.F.type_list_append mt_append (pv 3) (pa_cons (pe_tup (pa_cons pe_str (pa_cons (pv 8) pa_nil))) pa_nil))))))
          (pss_one (ps_expr (pe_bm PySem.F.plainAttrs_list PySem.F.slot_list_append PySem.F.type_list_append mt_append (pv 3) (pa_cons (pe_tup (pa_cons pe_str (pa_cons (pe_lc (own := [("j", 9)]) rfl sc_law_grid.nd (pi_range1 (by rfl) T.m_range (pa_cons (pv 2) pa_nil)) (blkOk_by (N := ["draws", "k", "many", "grid", "exact", "share", "i", "at", "row", "j"]) (sc := defScope s_law_grid) (by decide +kernel)) (fun _ _ _ _ _ => (pg_name (i := 9) sc_law_grid.nd rfl (.inl rfl))) (fun _ _ _ _ _ => pts_nil) (fun _ _ _ _ _ => (pe_call (ok_law_orders T) (hr.mono (by decide)) (by rfl) T.law_orders.g T.law_orders.F.kp T.law_orders.b .nil pass0 (pa_cons (pv 0) (pa_cons (pe_op op_add (pe_op op_add (pv 7) pe_int) (pe_op op_mul pe_int (pv 9))) (pa_cons pe_int pa_nil)))))) pa_nil))) pa_nil))))))))
      (pss_one (ps_ret (pv 3))))))), ?_⟩
    case t3 =>
      intro D σ H h
      obtain ⟨k, sh, t, g, x, v6, v8, v9, rfl, ha, ht, hm, nx⟩ := h
      refine ⟨_, rfl, (many : Nat), rfl, by omega, by omega, fun C nC => ?_⟩
      rw [Int.toNat_natCast]
      refine lc_inv (walk_range (lo := 0) (n := many)) (fun i G ys => ∃ (as : List Addr) (es : List (List Int)), ys = as.map V.ref ∧ RN C H G as es ∧ es.length = i ∧ ∀ e ∈ es, VE e) nC (fun _ _ => trivial) (small' (by omega)) ⟨[], [], rfl, .nil, rfl, fun _ z => by cases z⟩ (fun i x G Hx ys hi sm hC hR y Qt Qf qt qf => ?_) (fun G ys sm hC hR => ?_)
      · obtain ⟨rfl, rfl⟩ := y
        obtain ⟨as, es, rfl, hrn, hlen, hve⟩ := hR
        refine ⟨rfl, .ref a, rfl, _, rfl, _, _, rfl, rfl, _, rfl, _, _, rfl, rfl, .inl ⟨by decide, by decide⟩, _, _, rfl, rfl, a, ds, _, _, rfl, ha.same sm, by omega, fun G2 p ns s2 np hp ve => ?_⟩
        have pC : p ≠ C := fun z => by rw [z, hC] at np; cases np
        exact qt _ _ s2 ⟨as ++ [p], es ++ [ns], by rw [List.map_append]; rfl, hrn.snoc s2 pC (sm.free np) hp, by rw [List.length_append, hlen]; rfl, ve_snoc hve ve⟩
      · obtain ⟨as, es, rfl, hrn, hlen, hve⟩ := hR
        exact nx G C es _ sm nC (hrn.row hC) ⟨hlen, hve⟩
    case t2 =>
      intro D σ H h
      obtain ⟨k, sh, t, g, x, v6, v8, v9, zs, ess, rfl, ha, ht, hm0, hm, hx, hz, hl, hv, nx⟩ := h
      have els : T3 a ds many D (SG a k many g x sh v6 (some (.int t)) v8 v9) H := ⟨k, sh, t, g, x, v6, v8, v9, rfl, ha, ht, hm, nx⟩
      refine ⟨.ref x, rfl, x, _, rfl, .inl (.of hx), _, _, rfl, rfl, _, rfl, ?_⟩
      refine ite2 (fun h => ?_) (fun h => iteF els)
      have pos : 0 < ess.length := by have := of_decide_eq_true h; rw [hz.len] at this; omega
      refine ⟨.ref a, rfl, _, rfl, _, _, rfl, rfl, a, ds, _, _, rfl, ha, by omega, by decide, fun r1 p1 u1 => ⟨rfl, _, rfl, ?_⟩⟩
      refine ite2 (fun _ => ?_) (fun _ => els)
      refine ⟨.ref a, rfl, _, rfl, _, _, rfl, rfl, .ref x, rfl, .ref a, rfl, _, rfl, _, _, rfl, rfl, .ref x, rfl, x, _, rfl, .inl (.of hx), a, ds, _, _, rfl, ha, by omega, by rw [hz.len]; omega, fun r2 p2 u2 => ?_⟩
      rw [hz.len] at u2
      obtain ⟨es, he⟩ := some_at (xs := ess) (i := r2.toNat) (by omega)
      obtain ⟨v, hv2, hX⟩ := hz.get' he
      obtain ⟨b, rfl, hb⟩ := RowL.ofX hX
      have e2 : r2 = ((r2.toNat : Nat) : Int) := by omega
      refine ⟨x, _, _, _, rfl, rfl, .of hx, by rw [e2]; exact atI_nat hv2, ?_⟩
      exact ⟨a, b, ds, _, es, many, rfl, ha, by omega, hb, hv _ (mem_at he), hm0, hm, fun H' p els s1 np hF vr => nx H' p els _ s1 np hF vr⟩
    refine ⟨by show 0 ≤ sizeLine; decide, fun g ng => ?_⟩
    have s0 := same_upd ng (o := .lst [])
    refine ⟨by show 0 ≤ sizeLine; decide, fun x nx => ?_⟩
    have s1 := s0.trans (same_upd nx (o := .lst []))
    have xg : x ≠ g := fun z => by rw [z, upd_same] at nx; cases nx
    have nx0 : H x = none := s0.free nx
    refine ⟨.ref a, rfl, _, rfl, a, ds, _, _, rfl, ha.same s1, hk, by decide, fun sh p0 u0 => ?_⟩
    refine ⟨_, rfl, (many : Nat), rfl, by omega, by omega, ?_⟩
    rw [Int.toNat_natCast]
    refine for_range (n := many) (lo := 0) (fun i σ G => Same H G ∧ ∃ (v6 v7 v8 v9 : Option V) (xs : List V) (rs : List Rw) (zs : List V) (ess : List (List (List Int))), σ = SG a k many g x sh v6 v7 v8 v9 ∧ G g = some (.lst xs) ∧ A2 (XG K g x G) xs rs ∧ G x = some (.lst zs) ∧ A2 (XR g x G) zs ess ∧ rs.length = i ∧ ess.length ≤ i ∧ (∀ r ∈ rs, VR many r.2) ∧ (∀ e ∈ ess, VR many e)) ⟨s1, none, none, none, none, [], [], [], [], rfl, by rw [upd_ne xg.symm, upd_same], .nil, upd_same, .nil, rfl, Nat.le_refl _, (fun _ z => by cases z), (fun _ z => by cases z)⟩ (fun i σ G hi hP => ?_) (fun σ G hP => ?_)
    · obtain ⟨sm, v6, v7, v8, v9, xs, rs, zs, ess, rfl, hg, hA, hx, hz, lr, le, vr, ve⟩ := hP
      have lx := hA.len
      have lz := hz.len
      have gn : G g ≠ none := by rw [hg]; exact fun z => nomatch z
      have xn : G x ≠ none := by rw [hx]; exact fun z => nomatch z
      refine ⟨_, rfl, _, _, rfl, rfl, _, rfl, _, _, rfl, rfl, .inl ⟨by decide, by decide⟩, _, _, rfl, rfl, ?_⟩
      refine ⟨.ref a, rfl, _, rfl, a, ds, _, _, rfl, ha.same sm, by omega, by decide, fun r1 p1 u1 => ⟨_, rfl, _, _, rfl, rfl, _, rfl, ?_⟩⟩
      refine ite2 (fun _ => ?_) (fun _ => ?_)
      · refine ⟨_, _, _, _, _, _, _, _, zs, ess, rfl, ha.same sm, by omega, by omega, hm, hx, hz, by omega, ve, fun G2 p els v9 s2 np hF vrow => ?_⟩
        have hXR := XR.of gn xn np hF
        refine ⟨.ref x, rfl, .inl ⟨rfl, _, .of (s2 _ _ hx)⟩, _, rfl, x, _, _, rfl, rfl, s2 _ _ hx, small' (by omega), ?_⟩
        have s3 : Same H (upd G2 x (.lst (zs ++ [.ref p]))) := same_over (sm.trans s2) nx0
        have u3 : SP g x G (upd G2 x (.lst (zs ++ [.ref p]))) := (spS s2).trans spX
        have g3 : upd G2 x (.lst (zs ++ [.ref p])) g = some (.lst xs) := by rw [upd_ne xg.symm]; exact s2 _ _ hg
        have x3 : upd G2 x (.lst (zs ++ [.ref p])) x = some (.lst (zs ++ [.ref p])) := upd_same
        have hX3 := hXR.up (spX (g := g) (x := x) (o := .lst (zs ++ [.ref p])))
        generalize upd G2 x (.lst (zs ++ [.ref p])) = G3 at s3 u3 g3 x3 hX3
        refine ⟨.ref g, rfl, .inl ⟨rfl, _, .of g3⟩, _, rfl, by show 2 ≤ sizeLine; decide, fun t nt => ?_⟩
        have s4 := same_upd nt (o := .tup [.str "exact", .ref p])
        refine ⟨g, _, _, rfl, rfl, s4 _ _ g3, small' (by omega), ?_⟩
        have u5 : SP g x G3 (upd (upd G3 t (.tup [.str "exact", .ref p])) g (.lst (xs ++ [.ref t]))) := (spS s4).trans spG
        have tn : Of g x t := of_new (H := G3) (by rw [g3]; exact fun z => nomatch z) (by rw [x3]; exact fun z => nomatch z) nt
        refine ⟨same_over (s3.trans s4) ng, _, _, _, _, xs ++ [.ref t], rs ++ [(true, els)], zs ++ [.ref p], ess ++ [els], rfl, upd_same, A2.snoc ⟨t, .ref p, rfl, tn, by rw [upd_ne tn.1, upd_same]; rfl, hX3.up u5⟩ (hA.mono fun _ _ z => z.up (u3.trans u5)), by rw [upd_ne xg]; exact s4 _ _ x3, A2.snoc (hX3.up u5) (hz.mono fun _ _ z => z.up (u3.trans u5)), by rw [List.length_append, lr]; rfl, by rw [List.length_append]; exact Nat.succ_le_succ le, fun r hr => ?_, fun e he => ?_⟩
        · rcases List.mem_append.mp hr with z | z
          · exact vr r z
          · rw [List.mem_singleton.mp z]; exact vrow
        · rcases List.mem_append.mp he with z | z
          · exact ve e z
          · rw [List.mem_singleton.mp z]; exact vrow
      · refine ⟨.ref g, rfl, .inl ⟨rfl, _, .of hg⟩, _, rfl, (many : Nat), rfl, by omega, by omega, fun C nC => ?_⟩
        rw [Int.toNat_natCast]
        refine lc_inv (walk_range (lo := 0) (n := many)) (fun i G1 ys => ∃ (as : List Addr) (es : List (List Int)), ys = as.map V.ref ∧ RN C G G1 as es ∧ es.length = i ∧ ∀ e ∈ es, VE e) nC (fun _ _ => trivial) (small' (by omega)) ⟨[], [], rfl, .nil, rfl, fun _ z => by cases z⟩ (fun i x G1 Hx ys hi sm1 hC hR y Qt Qf qt qf => ?_) (fun G1 ys sm1 hC hR => ?_)
        · obtain ⟨rfl, rfl⟩ := y
          obtain ⟨as, es, rfl, hrn, hlen, hve⟩ := hR
          refine ⟨rfl, .ref a, rfl, _, rfl, _, _, rfl, rfl, _, rfl, _, _, rfl, rfl, .inl ⟨by decide, by decide⟩, _, _, rfl, rfl, a, ds, _, _, rfl, (ha.same sm).same sm1, by omega, fun G2 p ns s2 np hp ve => ?_⟩
          have pC : p ≠ C := fun z => by rw [z, hC] at np; cases np
          exact qt _ _ s2 ⟨as ++ [p], es ++ [ns], by rw [List.map_append]; rfl, hrn.snoc s2 pC (sm1.free np) hp, by rw [List.length_append, hlen]; rfl, ve_snoc hve ve⟩
        · obtain ⟨as, es, rfl, hrn, hlen, hve⟩ := hR
          have hXR := XR.of gn xn nC (hrn.row hC)
          refine ⟨by show 2 ≤ sizeLine; decide, fun t nt => ?_⟩
          have s4 := same_upd nt (o := .tup [.str "sized", .ref C])
          have g3 := sm1 _ _ hg
          have x3 := sm1 _ _ hx
          refine ⟨g, _, _, rfl, rfl, s4 _ _ g3, small' (by omega), ?_⟩
          have u5 : SP g x G1 (upd (upd G1 t (.tup [.str "sized", .ref C])) g (.lst (xs ++ [.ref t]))) := (spS s4).trans spG
          have tn : Of g x t := of_new (H := G1) (by rw [g3]; exact fun z => nomatch z) (by rw [x3]; exact fun z => nomatch z) nt
          refine ⟨same_over ((sm.trans sm1).trans s4) ng, _, _, _, _, xs ++ [.ref t], rs ++ [(false, es)], zs, ess, rfl, upd_same, A2.snoc ⟨t, .ref C, rfl, tn, by rw [upd_ne tn.1, upd_same]; rfl, hXR.up u5⟩ (hA.mono fun _ _ z => z.up ((spS sm1).trans u5)), by rw [upd_ne xg]; exact s4 _ _ x3, (hz.mono fun _ _ z => z.up ((spS sm1).trans u5)), by rw [List.length_append, lr]; rfl, by omega, fun r hr => ?_, ve⟩
          rcases List.mem_append.mp hr with z | z
          · exact vr r z
          · rw [List.mem_singleton.mp z]; exact ⟨hlen, hve⟩
    · obtain ⟨sm, v6, v7, v8, v9, xs, rs, zs, ess, rfl, hg, hA, hx, hz, lr, le, vr, ve⟩ := hP
      exact ⟨.ref g, rfl, q G g rs sm ⟨xs, hg, hA.mono fun _ _ z => z.row⟩ ⟨lr, vr⟩⟩
end
-- I
section
variable {P : Program} {w : World} {K : PySem.W.Frag} {mg : Str → Option Value} {base : Heap}
theorem str_ex (b : Bool) : decide (V.str (kS b) = V.str "exact") = b := by
  cases b <;> decide +kernel
theorem at_last {ns : List Int} (h : ns ≠ []) : atI (ns.map V.int) (-1) = some (V.int (cf ns (ns.length - 1))) := by
  have p : 0 < ns.length := List.length_pos_iff.mpr h
  unfold atI ixN
  rw [List.length_map, if_neg (by omega), if_pos (by omega)]
  show (ns.map V.int)[(-1 + (ns.length : Int)).toNat]? = _
  rw [show (-1 + (ns.length : Int)).toNat = ns.length - 1 by omega, List.getElem?_map, at_map (by omega)]; rfl
def pwr (ex : Bool) (e : List Int) : Int := if ex = true then (e.length : Int) - 1 else cf e (e.length - 1)
theorem pw_yes {ex : Bool} {e : List Int} (h : e ≠ []) : pw ex e = some (pwr ex e) := by unfold pw pwr; rw [if_neg h]
theorem pw_no {ex : Bool} : pw ex [] = none := rfl
def sp_law_power (K : PySem.W.Frag) : Sp := fun vs H Q _ => ∃ (a : Addr) (e : List Int) (ex : Bool), vs = [.str (kS ex), .ref a] ∧ SqL K H a (e.map V.int) ∧ e ≠ [] ∧ Q (.int (pwr ex e)) H
theorem ok_law_power (T : Txt K mg) : FnOk P w K mg base CX0 1 T.law_power.a T.law_power.fd ["kind", "element"] (sp_law_power K) := by
  refine T.law_power.F.ok sc_law_power (fun vs H Q E h => ?_) (fun cdv A outer s H vs Q E hr h => ?_)
  · obtain ⟨a, e, ex, rfl, _⟩ := h
    rfl
  · obtain ⟨a, e, ex, rfl, ha, hn, q⟩ := h
    refine ⟨_, (pss_cons (ps_if (pt_cmpR op_eq (pv 0) pe_str (nomark _))
        (pss_one (ps_ret (pe_op op_sub (pe_callB call_len_seq (by rfl) T.m_len (by decide +kernel) (pa_cons (pv 1) pa_nil)) pe_int)))
        pss_nil)
      (pss_one (ps_ret (pe_ix ix_list (pv 1) (pe_un un_neg pe_int) (fun _ _ => rfl))))), ?_⟩
    refine ⟨_, rfl, rfl, _, rfl, ?_⟩
    rw [str_ex]
    cases ex with
    | true =>
      refine iteT ⟨.ref a, rfl, a, _, rfl, .inl ha, _, _, rfl, rfl, ?_⟩
      rw [List.length_map]
      exact q
    | false => exact iteF ⟨.ref a, rfl, _, rfl, a, _, _, _, rfl, rfl, ha, at_last hn, q⟩
def sp_power_of (K : PySem.W.Frag) : Sp := fun vs H Q _ => ∃ (v : V) (r : Rw) (j : Nat) (e : List Int), vs = [v, .int (j : Nat)] ∧ RwV K H v r ∧ r.2[j]? = some e ∧ ∀ H', Same H H' → Q (vI (pw r.1 e)) H'
theorem ok_power_of (T : Txt K mg) : FnOk P w K mg base CX0 1 T.power_of.a T.power_of.fd ["told", "j"] (sp_power_of K) := by
  refine T.power_of.F.ok sc_power_of (fun vs H Q E h => ?_) (fun cdv A outer s H vs Q E hr h => ?_)
  · obtain ⟨v, r, j, e, rfl, _⟩ := h
    rfl
  · obtain ⟨v, r, j, e, rfl, hv, he, q⟩ := h
    obtain ⟨t, b, rfl, ht, as, hb, hA⟩ := hv
    obtain ⟨c, hc, hI⟩ := hA.get' he
    have hat : atI (as.map V.ref) ((j : Nat) : Int) = some (.ref c) := atI_nat (by rw [List.getElem?_map, hc]; rfl)
    refine ⟨_, (pss_cons (ps_asg (pv 0) (pg_tup rfl (pgs_cons (pg_name (i := 2) sc_power_of.nd rfl (.inl rfl)) (pgs_cons (pg_name (i := 3) sc_power_of.nd rfl (.inl rfl)) pgs_nil))))
      (pss_cons (ps_if (pt_cmpR (op_eqD hr.units) (pe_ix ix_list (pv 3) (pv 1) (fun _ _ => rfl)) (pe_lst pa_nil) (nomark _))
        (pss_one (ps_ret pe_non))
        pss_nil)
      (pss_one (ps_ret (pe_ifExp (pt_cmpR op_eq (pv 2) pe_str (nomark _)) (pe_op op_sub (pe_callB call_len_seq (by rfl) T.m_len (by decide +kernel) (pa_cons (pe_ix ix_list (pv 3) (pv 1) (fun _ _ => rfl)) pa_nil)) pe_int) (pe_ix ix_list (pe_ix ix_list (pv 3) (pv 1) (fun _ _ => rfl)) (pe_un un_neg pe_int) (fun _ _ => rfl))))))), ?_⟩
    refine ⟨.ref t, rfl, t, _, rfl, ht, rfl, _, _, rfl, _, _, rfl, rfl, ?_⟩
    refine ⟨.ref b, rfl, _, rfl, b, _, _, _, rfl, rfl, .of hb, hat, by show 0 ≤ sizeLine; decide, fun l nl => ?_⟩
    have s1 := same_upd nl (o := .lst [])
    refine ⟨dI e, .list [], dpI (hI.same s1).sq, .lst (.of upd_same) .nil, shaped_dI e, rfl, _, rfl, ?_⟩
    rw [eqv_nil]
    refine ite2 (fun h => ?_) (fun h => ?_)
    · obtain rfl := of_decide_eq_true h
      exact q _ s1
    have hn : e ≠ [] := fun z => h (decide_eq_true z)
    rw [pw_yes hn] at q
    refine ⟨_, rfl, rfl, _, rfl, ?_⟩
    rw [str_ex]
    have hb1 := s1 _ _ hb
    cases hx : r.1 with
    | true =>
      rw [hx] at q
      refine iteT ⟨.ref b, rfl, _, rfl, b, _, _, _, rfl, rfl, .of hb1, hat, c, _, rfl, .inl (hI.same s1).sq, _, _, rfl, rfl, ?_⟩
      rw [List.length_map]
      exact q _ s1
    | false =>
      rw [hx] at q
      exact iteF ⟨.ref b, rfl, _, rfl, b, _, _, _, rfl, rfl, .of hb1, hat, _, rfl, c, _, _, _, rfl, rfl, (hI.same s1).sq, at_last hn, q _ s1⟩
/-- the powers of a grid, row by row, in a new list -/
def PRow (D : Addr) (H : Hp) (v : V) (row : List (Option Int)) : Prop := ∃ a, v = .ref a ∧ a ≠ D ∧ H a = some (.lst (row.map vI))
def sp_powers_of (K : PySem.W.Frag) : Sp := fun vs H Q _ => ∃ (g : Addr) (rs : List Rw) (many : Nat), vs = [.ref g] ∧ GR K H g rs ∧ VG many rs ∧ many ≤ 16 ∧ ∀ H' p xs, Same H H' → H' p = some (.lst xs) → A2 (PRow p H') xs (rs.map fun r => r.2.map (pw r.1)) → Q (.ref p) H'
theorem ok_powers_of (T : Txt K mg) : FnOk P w K mg base CX0 2 T.powers_of.a T.powers_of.fd ["grid"] (sp_powers_of K) := by
  refine T.powers_of.F.ok sc_powers_of (fun vs H Q E h => ?_) (fun cdv A outer s H vs Q E hr h => ?_)
  · obtain ⟨g, rs, many, rfl, _⟩ := h
    rfl
  · obtain ⟨g, rs, many, rfl, hg, vg, hm, q⟩ := h
    obtain ⟨xs, hx, hA⟩ := hg
    have lx := hA.len
    have lr := vg.1
    refine ⟨_, (pss_one (ps_ret (pe_lc (own := [("told", 1)]) rfl sc_powers_of.nd (pi_list (pv 0)) (blkOk_by (N := ["grid", "told", "j"]) (sc := defScope s_powers_of) (by decide +kernel)) (fun _ _ _ _ _ => (pg_name (i := 1) sc_powers_of.nd rfl (.inr rfl))) (fun _ _ _ _ _ => pts_nil) (fun _ _ _ _ _ => (pe_lc (own := [("j", 2)]) rfl sc_powers_of.nd (pi_range1 (by rfl) T.m_range (pa_cons (pe_callB (id := "len") (r := rLenS K) call_lenC (by rfl) T.m_len (by decide +kernel) (pa_cons (pv 0) pa_nil)) pa_nil)) (blkOk_by (N := ["grid", "told", "j"]) (sc := { kind := .function, names := [(".0", .local), ("told", .cell), ("range", .globalImplicit), ("len", .globalImplicit), ("grid", .cell)], isGenerator := false, isCoroutine := false, more := [] }) (by decide +kernel)) (fun _ _ _ _ _ => (pg_name (i := 2) sc_powers_of.nd rfl (.inl rfl))) (fun _ _ _ _ _ => pts_nil) (fun _ _ _ _ _ => (pe_call (ok_power_of T) (hr.mono (by decide)) (by rfl) T.power_of.g T.power_of.F.kp T.power_of.b .nil pass0 (pa_cons (pv 1) (pa_cons (pv 2) pa_nil))))))))), ?_⟩
    refine ⟨.ref g, rfl, g, rfl, ⟨_, .of hx⟩, fun D nD => ?_⟩
    refine lc_fm (walk_list (xs := xs)) rs (fun r => some (r.2.map (pw r.1))) (PRow D) (fun _ _ _ _ s ⟨a, e, n, h⟩ => ⟨a, e, n, s _ _ n h⟩) lx.symm nD (fun H' s => s.seq (.of hx)) (small' (by omega)) (fun i x H' Hx ys r hr2 sm hD y Qt Qf qt qf => ?_) (fun G ys sm hD hR => ?_)
    · obtain ⟨rfl, hxi⟩ := y
      obtain ⟨r', hr', hv⟩ := hA.get hxi
      obtain rfl := Option.some.inj (hr2.symm.trans hr')
      have hx1 := sm _ _ hx
      have lrow := (vg.2 r (mem_at hr2)).1
      refine ⟨rfl, .ref g, rfl, g, _, rfl, .inl (.of hx1), (rs.length : Nat), by rw [lx], by omega, by omega, fun D2 nD2 => ?_⟩
      rw [Int.toNat_natCast]
      refine lc_fm (walk_range (lo := 0) (n := rs.length)) r.2 (fun e => some (pw r.1 e)) (fun _ v o => v = vI o) (fun _ _ _ _ _ z => z) (by omega) nD2 (fun _ _ => trivial) (small' (by omega)) (fun i2 x2 H2 Hx2 ys2 e he sm2 hD2 y2 Qt2 Qf2 qt2 qf2 => ?_) (fun G2 ys2 sm2 hD2 hR2 => ?_)
      · obtain ⟨rfl, rfl⟩ := y2
        refine ⟨rfl, _, rfl, _, rfl, x, r, i2, e, ?_, (hv.lk (lk sm)).lk (lk sm2), he, fun H3 s3 => qt2 _ _ _ rfl s3 rfl⟩
        show [x, V.int (0 + (i2 : Int))] = _
        rw [Int.zero_add]
      · rw [a2_eq hR2, fm_some] at hD2
        exact qt _ _ _ rfl sm2 ⟨D2, rfl, (fun z => by rw [z, hD] at nD2; cases nD2), hD2⟩
    · rw [fm_some] at hR
      exact q _ D ys sm hD hR
end
-- J
section
variable {P : Program} {w : World} {K : PySem.W.Frag} {mg : Str → Option Value} {base : Heap}
/-- all stands but the tables of code, and nothing is forgotten -/
def LkN (H H' : Hp) : Prop := Lk H H' ∧ ∀ b, H' b = none → H b = none
theorem LkN.refl {H : Hp} : LkN H H := ⟨.refl, fun _ z => z⟩
theorem LkN.trans {H H1 H2 : Hp} (a : LkN H H1) (b : LkN H1 H2) : LkN H H2 := ⟨a.1.trans b.1, fun c z => a.2 c (b.2 c z)⟩
theorem lkN {H H' : Hp} (s : Same H H') : LkN H H' := ⟨K50.lk s, fun _ z => s.free z⟩
theorem lkN_tab {H H' : Hp} {P : Addr} (h : GxR.TabG H P) (s : GxR.Tabbed P H H') : LkN H H' := ⟨lk_tab h s, fun b z => by
  by_cases e : b = P
  · obtain ⟨ps, hP, _⟩ := s.1
    rw [e, hP] at z
    cases z
  · rw [← s.2 b e]; exact z⟩
/-- what the document says of marks -/
def Ok1 (ex : Bool) (e : List Int) (d : Int) : Prop := ∀ k, pw ex e = some k → k ≤ d
def RowOk (r : Rw) (pi : Int) (qs : List Int) : Prop := ∀ j e, r.2[j]? = some e → Ok1 r.1 e (cf qs j - pi)
def MK (rs : List Rw) (ps qs : List Int) : Prop := ps.length = rs.length ∧ qs.length = rs.length ∧ (∀ x ∈ ps, 0 ≤ x) ∧ ∀ i r, rs[i]? = some r → RowOk r (cf ps i) qs
def sp_is_marks (K : PySem.W.Frag) (P : Addr) : Sp := fun vs H Q _ => ∃ (g p q : Addr) (rs : List Rw) (ps qs : List Int) (many : Nat), vs = [.ref g, .ref p, .ref q] ∧ GR K H g rs ∧ VG many rs ∧ many ≤ 16 ∧ SqL K H p (ps.map V.int) ∧ SqL K H q (qs.map V.int) ∧ GxR.TabG H P ∧
  ∀ (b : Bool) H', (b = true ↔ MK rs ps qs) → LkN H H' → GxR.TabG H' P → Q (.bl b) H'
theorem any_ints (ps : List Int) : LE.anyTo ps.length (fun j => decide (cf ps j < 0)) = true ↔ ¬ ∀ x ∈ ps, 0 ≤ x := by
  unfold LE.anyTo
  rw [List.any_eq_true]
  constructor
  · rintro ⟨j, hj, h⟩ z
    have hj := List.mem_range.mp hj
    have := z _ (mem_at (at_map hj))
    have := of_decide_eq_true h
    omega
  · intro h
    by_cases z : ∃ j, j < ps.length ∧ cf ps j < 0
    · obtain ⟨j, hj, h2⟩ := z
      exact ⟨j, List.mem_range.mpr hj, decide_eq_true h2⟩
    · refine absurd (fun x hx => ?_) h
      obtain ⟨j, hj, e⟩ := List.getElem_of_mem hx
      have h1 : ps[j]? = some x := by rw [List.getElem?_eq_getElem hj, e]
      have h2 : cf ps j = x := Option.some.inj ((at_map hj).symm.trans h1)
      by_cases n : 0 ≤ x
      · exact n
      · exact absurd ⟨j, hj, by omega⟩ z
/-- one place of the second test -/
def bad (o : Option Int) (d : Int) : Bool := match o with
  | none => false
  | some k => decide (d < k)
theorem bad_iff (ex : Bool) (e : List Int) (d : Int) : bad (pw ex e) d = true ↔ ¬ Ok1 ex e d := by
  unfold Ok1
  cases h : pw ex e with
  | none => exact ⟨fun z => (nomatch z), fun z => absurd (fun k y => (nomatch y)) z⟩
  | some k =>
    show decide (d < k) = true ↔ _
    constructor
    · intro z y
      have := y k rfl
      have := of_decide_eq_true z
      omega
    · intro z
      by_cases y : d < k
      · exact decide_eq_true y
      · exact absurd (fun k' h' => by cases h'; omega) z
theorem any_row (r : Rw) (pi : Int) (qs : List Int) : LE.anyTo r.2.length (fun j => bad (((r.2.map (pw r.1)).getD j none)) (cf qs j - pi)) = true ↔ ¬ RowOk r pi qs := by
  unfold LE.anyTo
  rw [List.any_eq_true]
  have at_ : ∀ {j e}, r.2[j]? = some e → (r.2.map (pw r.1)).getD j none = pw r.1 e := fun {j e} h => by
    rw [List.getD_eq_getElem?_getD, List.getElem?_map, h]; rfl
  constructor
  · rintro ⟨j, hj, h⟩ z
    obtain ⟨e, he⟩ := some_at (List.mem_range.mp hj)
    rw [at_ he] at h
    exact (bad_iff _ _ _).mp h (z j e he)
  · intro h
    by_cases z : ∃ j e, r.2[j]? = some e ∧ ¬ Ok1 r.1 e (cf qs j - pi)
    · obtain ⟨j, e, he, h2⟩ := z
      exact ⟨j, List.mem_range.mpr (List.getElem?_eq_some_iff.mp he).1, by rw [at_ he]; exact (bad_iff _ _ _).mpr h2⟩
    · refine absurd (fun j e he => ?_) h
      by_cases n : Ok1 r.1 e (cf qs j - pi)
      · exact n
      · exact absurd ⟨j, e, he, n⟩ z
theorem vI_non (o : Option Int) : decide (vI o = V.non) = o.isNone := by cases o <;> rfl
theorem ok_is_marks (T : Txt K mg) {P2 : Addr} (TB : GxR.TabB base mg T.is_marks.c P2) : FnOk P w K mg base CX0 3 T.is_marks.a T.is_marks.fd ["grid", "p", "q"] (sp_is_marks K P2) := by
  refine T.is_marks.ok sc_is_marks (fun vs H Q E h => ?_) (fun A outer s H vs Q E hr h => ?_)
  · obtain ⟨g, p, q, rs, ps, qs, many, rfl, _⟩ := h
    rfl
  · obtain ⟨g, p, q, rs, ps, qs, many, rfl, hg, vg, hm, hp, hq, tb, fin⟩ := h
    have hg' := hg
    obtain ⟨xs, hx, hA⟩ := hg'
    have lx := hA.len
    have lr := vg.1
    refine ⟨_, (pss_cons (ps_set (i := 3) sc_is_marks.nd rfl (.inl rfl) (pe_callB call_len_seq (by rfl) T.m_len (by decide +kernel) (pa_cons (pv 0) pa_nil)))
      (pss_cons (ps_if (PW.pt (pw_or (pt_cmpR op_ne (pe_callB call_len_seq (by rfl) T.m_len (by decide +kernel) (pa_cons (pv 1) pa_nil)) (pv 3) (nomark _)) (pw_or (pt_cmpR op_ne (pe_callB call_len_seq (by rfl) T.m_len (by decide +kernel) (pa_cons (pv 2) pa_nil)) (pv 3) (nomark _)) (pw_or1 (pt_val (LE.pe_anyL hr (by rfl) T.m_any TB rfl ⟨defScope s_is_marks, rfl, by decide +kernel⟩ (pv 1) (fun _ => rfl)))))))
        (pss_one (ps_ret pe_bl))
        pss_nil)
      (pss_cons (ps_for PassesOwn.never rfl (pi_enum (by rfl) T.m_enumerate (pa_cons (pe_call (ok_powers_of T) (hr.mono (by decide)) (by rfl) T.powers_of.g T.powers_of.F.kp T.powers_of.b .nil pass0 (pa_cons (pv 0) pa_nil)) pa_nil)) (pg_tup rfl (pgs_cons (pg_name (i := 5) sc_is_marks.nd rfl (.inr rfl)) (pgs_cons (pg_name (i := 4) sc_is_marks.nd rfl (.inl rfl)) pgs_nil)))
        (pss_one (ps_if (pt_val (LE.pe_anyE hr (by rfl) T.m_any TB rfl ⟨defScope s_is_marks, rfl, by decide +kernel⟩ rfl (by decide) (by rfl) T.m_enumerate (pa_cons (pv 4) pa_nil) rfl (fun _ => rfl)))
          (pss_one (ps_ret pe_bl))
          pss_nil)))
      (pss_one (ps_ret pe_bl))))), ?_⟩
    refine ⟨.ref g, rfl, g, _, rfl, .inl (.of hx), ?_⟩
    rw [lx]
    refine ⟨.ref p, rfl, p, _, rfl, .inl hp, _, rfl, rfl, _, rfl, ?_⟩
    rw [List.length_map]
    refine ite2 (fun h => iteT (fin false _ ⟨fun z => (nomatch z), fun z => ?_⟩ .refl tb)) (fun h => ?_)
    · rw [z.1] at h
      simp at h
    have e1 : ps.length = rs.length := by
      by_cases z : ps.length = rs.length
      · exact z
      · exact absurd (by rw [Bool.not_eq_true']; exact decide_eq_false fun y => z (by have := V.int.inj y; omega)) h
    refine ⟨.ref q, rfl, q, _, rfl, .inl hq, _, rfl, rfl, _, rfl, ?_⟩
    rw [List.length_map]
    refine ite2 (fun h => iteT (fin false _ ⟨fun z => (nomatch z), fun z => ?_⟩ .refl tb)) (fun h => ?_)
    · rw [z.2.1] at h
      simp at h
    have e2 : qs.length = rs.length := by
      by_cases z : qs.length = rs.length
      · exact z
      · exact absurd (by rw [Bool.not_eq_true']; exact decide_eq_false fun y => z (by have := V.int.inj y; omega)) h
    refine ⟨.ref p, rfl, p, _, fun j => decide (cf ps j < 0), [], rfl, hp, tb, LE.seen_nil, fun j v hv => ?_, fun H2 tb2 => ⟨_, rfl, ?_⟩⟩
    · have hj : j < ps.length := by have := (List.getElem?_eq_some_iff.mp hv).1; rw [List.length_map] at this; exact this
      rw [List.getElem?_map, at_map hj] at hv
      obtain rfl := Option.some.inj hv
      exact LE.pu_lt (LE.pu_var rfl) LE.pu_int
    rw [List.length_map]
    have k2 := lkN_tab tb tb2
    refine ite2 (fun h => fin false _ ⟨fun z => (nomatch z), fun z => absurd z.2.2.1 ((any_ints ps).mp h)⟩ k2 tb2.1) (fun h => ?_)
    have e3 : ∀ x ∈ ps, 0 ≤ x := by
      by_cases z : ∀ x ∈ ps, 0 ≤ x
      · exact z
      · exact absurd ((any_ints ps).mpr z) h
    refine ⟨.ref g, rfl, g, rs, many, rfl, hg.lk k2.1, vg, hm, fun H3 rp ys s3 hrp hR => ?_⟩
    have k3 := k2.trans (lkN s3)
    have tb3 := tabG_same tb2.1 s3
    have ly := hR.len
    rw [List.length_map] at ly
    refine ⟨rp, _, rfl, .of hrp, ?_⟩
    refine for_it (walk_enum (xs := ys)) (fun i σ H' => LkN H3 H' ∧ GxR.TabG H' P2 ∧ ∃ (v4 v5 : Option V), σ = [some (.ref g), some (.ref p), some (.ref q), some (.int (rs.length : Nat)), v4, v5] ∧ ∀ i' r, i' < i → rs[i']? = some r → RowOk r (cf ps i') qs) ⟨.refl, tb3, none, none, rfl, fun _ _ z => absurd z (Nat.not_lt_zero _)⟩ (fun i σ H' _ hP => .of (hP.1.1.lst hrp)) (fun i x σ H' Hx hi hP y => ?_) (fun σ H' hP => ?_)
    · obtain ⟨kk, tb4, v4, v5, rfl, hrow⟩ := hP
      obtain ⟨T', i', x', rfl, nT, rfl, ei, hx'⟩ := y
      obtain rfl := Option.some.inj ei
      obtain ⟨row, hrow2, a, rfl, _, har⟩ := hR.get hx'
      rw [List.getElem?_map] at hrow2
      obtain ⟨r, hr2⟩ := some_at (xs := rs) (i := i) (by omega)
      rw [hr2] at hrow2
      obtain rfl := Option.some.inj hrow2
      have s5 := same_upd nT (o := .tup [V.int (i : Nat), V.ref a])
      have k5 := kk.trans (lkN s5)
      have tb5 := tabG_same tb4 s5
      have ha5 := k5.1.lst har
      refine ⟨T', _, rfl, .of upd_same, rfl, _, _, rfl, _, _, rfl, rfl, ?_⟩
      refine ⟨.ref a, rfl, a, _, fun j => bad ((r.2.map (pw r.1)).getD j none) (cf qs j - cf ps i), [("q", .ref q), ("p", .ref p), ("i", .int (i : Nat))], rfl, .of ha5, tb5, ?_, fun j v hv => ?_, fun H6 tb6 => ⟨_, rfl, ?_⟩⟩
      · exact LE.seen_cons 2 rfl rfl (.inl rfl) rfl (LE.seen_cons 1 rfl rfl (.inl rfl) rfl (LE.seen_cons 5 rfl rfl (.inl rfl) rfl LE.seen_nil))
      · rw [List.getElem?_map] at hv
        have hjl : j < r.2.length := by
          by_cases z : j < r.2.length
          · exact z
          · rw [List.getElem?_map, List.getElem?_eq_none (by omega)] at hv
            cases hv
        have lrow := (vg.2 r (mem_at hr2)).1
        obtain ⟨o, ho⟩ : ∃ o, (r.2.map (pw r.1))[j]? = some o := some_at (by rw [List.length_map]; exact hjl)
        rw [ho] at hv
        obtain rfl := Option.some.inj hv
        have hiN : i < ps.length := by have := (List.getElem?_eq_some_iff.mp hr2).1; omega
        have eo : (r.2.map (pw r.1)).getD j none = o := by rw [List.getD_eq_getElem?_getD, ho]; rfl
        show LE.PU _ _ _ _ _ (.bl (bad ((r.2.map (pw r.1)).getD j none) (cf qs j - cf ps i)))
        rw [eo]
        have hq5 : SqL K (upd H' T' (.tup [V.int (i : Nat), V.ref a])) q (qs.map V.int) := (k3.trans k5).1.seqL hq
        have hp5 : SqL K (upd H' T' (.tup [V.int (i : Nat), V.ref a])) p (ps.map V.int) := (k3.trans k5).1.seqL hp
        cases o with
        | none =>
          refine LE.pu_and (c := false) (r := false) ?_ (fun z => nomatch z)
          exact LE.pu_notN (v := vI none) (LE.pu_var rfl)
        | some k =>
          refine LE.pu_and (c := true) (r := decide (cf qs j - cf ps i < k)) ?_ (fun _ => ?_)
          · exact LE.pu_notN (v := vI (some k)) (LE.pu_var rfl)
          · refine LE.pu_one (LE.pu_lt (LE.pu_sub (LE.pu_ix (p := q) (i := j) (v := .int (cf qs j)) ?_ ?_ hq5 (by rw [List.getElem?_map, at_map (show j < qs.length by omega)]; rfl)) (LE.pu_ix (p := p) (i := i) (v := .int (cf ps i)) ?_ ?_ hp5 (by rw [List.getElem?_map, at_map hiN]; rfl))) ?_)
            · exact LE.pu_var rfl
            · exact LE.pu_var rfl
            · exact LE.pu_var rfl
            · exact LE.pu_var rfl
            · exact LE.pu_var rfl
      · rw [List.length_map, List.length_map]
        have k6 := lkN_tab tb5 tb6
        refine ite2 (fun h => fin false _ ⟨fun z => (nomatch z), fun z => absurd (z.2.2.2 i r hr2) ((any_row r _ qs).mp h)⟩ (k3.trans (k5.trans k6)) tb6.1) (fun h => ?_)
        refine ⟨k5.trans k6, tb6.1, _, _, rfl, fun i' r' hi' hr' => ?_⟩
        rcases Nat.lt_or_ge i' i with z | z
        · exact hrow i' r' z hr'
        · obtain rfl : i' = i := by omega
          rw [hr2] at hr'
          cases hr'
          by_cases n : RowOk r (cf ps i') qs
          · exact n
          · exact absurd ((any_row r _ qs).mpr n) h
    · obtain ⟨kk, tb4, v4, v5, rfl, hrow⟩ := hP
      exact fin true _ ⟨fun _ => ⟨e1, e2, e3, fun i r hr2 => hrow i r (by have := (List.getElem?_eq_some_iff.mp hr2).1; omega) hr2⟩, fun _ => rfl⟩ (k3.trans kk) tb4
end
-- K
theorem asc_unique : ∀ {xs ys : List Int}, xs.Pairwise (· < ·) → ys.Pairwise (· < ·) → (∀ k : Int, k ∈ xs ↔ k ∈ ys) → xs = ys
  | [], [], _, _, _ => rfl
  | [], y :: ys, _, _, h => by have := (h y).mpr List.mem_cons_self; cases this
  | x :: xs, [], _, _, h => by have := (h x).mp List.mem_cons_self; cases this
  | x :: xs, y :: ys, hx, hy, h => by
    obtain ⟨hx1, hx2⟩ := List.pairwise_cons.mp hx
    obtain ⟨hy1, hy2⟩ := List.pairwise_cons.mp hy
    have e : x = y := by
      rcases List.mem_cons.mp ((h x).mp List.mem_cons_self) with z | z
      · exact z
      · rcases List.mem_cons.mp ((h y).mpr List.mem_cons_self) with u | u
        · exact u.symm
        · have a := hy1 x z
          have b := hx1 y u
          omega
    subst e
    rw [asc_unique hx2 hy2 fun k => ?_]
    constructor
    · intro m
      rcases List.mem_cons.mp ((h k).mp (List.mem_cons_of_mem _ m)) with z | z
      · subst z; have := hx1 k m; omega
      · exact z
    · intro m
      rcases List.mem_cons.mp ((h k).mpr (List.mem_cons_of_mem _ m)) with z | z
      · subst z; have := hy1 k m; omega
      · exact z

theorem nodup_asc : ∀ {ns : List Int}, ns.Pairwise (· ≤ ·) → ns.Nodup → ns.Pairwise (· < ·) := fun h n => (List.pairwise_iff_getElem.mpr fun i j hi hj lt => by
  have a := List.pairwise_iff_getElem.mp h i j hi hj lt
  have b := List.pairwise_iff_getElem.mp n i j hi hj lt
  omega)
theorem pe_fldC {X : Cx} {K : PySem.W.Frag} {e : Expr} {f : Str} {pos : Pos} {ta : TE} (hK : X.K = K) (he : PE X e ta) (hb : attributeBase e f X.env (eval e X.env) = eval e X.env) : PE X (.Attribute e f pos) (tFld K ta f) := by
  subst hK
  exact pe_fld he hb
/-- sorted of a dict whose keys are ints -/
def rSortD : List V → Hp → VK → Prop := fun xs H Q => ∃ (a : Addr) (kvs : List (Key × V)) (ks : List Int), xs = [.ref a] ∧ Rd H a (.dK kvs) ∧ kvs.map (·.1) = ks.map Sum.inl ∧ ks.length < 64 ∧ ks.Pairwise (· < ·) ∧ ∀ (p : Addr), H p = none → Q (.ref p) (upd H p (.lst (ks.map V.int)))
theorem call_sortD {X : Cx} (hc : X.calm = true) : CallR X (.builtin "sorted") rSortD := by
  intro pins s σ H xs us Q I r h
  obtain ⟨a, kvs, ks, e, hd, hk, hl, hs, q⟩ := h
  refine call_sortedDI hc pins s σ H xs us Q I r ⟨a, kvs, ks, e, hd, hk, hl, fun ys p hp ho hn => ?_⟩
  have nd : ks.Nodup := hs.imp fun h => by omega
  have : ys = ks := asc_unique (nodup_asc ho (hp.nodup_iff.mpr nd)) hs fun k => hp.mem_iff
  rw [this]
  exact q p hn
/-- what a dict with different keys holds -/
theorem val_at : ∀ {kvs : List (Key × V)} {k : Key} {v : V} {i : Nat}, (kvs.map (·.1)).Nodup → kvs[i]? = some (k, v) → valV kvs k = some v
  | [], _, _, _, _, h => by simp at h
  | (k0, v0) :: r, k, v, 0, _, h => by
    obtain ⟨rfl, rfl⟩ := Prod.mk.inj (Option.some.inj h)
    unfold valV
    rw [List.find?_cons_of_pos (by simp)]; rfl
  | (k0, v0) :: r, k, v, i + 1, n, h => by
    have h : r[i]? = some (k, v) := h
    have n2 := List.nodup_cons.mp n
    have ne : k0 ≠ k := fun z => n2.1 (by rw [z]; exact List.mem_map.mpr ⟨(k, v), List.mem_of_getElem? h, rfl⟩)
    have := val_at n2.2 h
    unfold valV at this ⊢
    rw [List.find?_cons_of_neg (by simp [ne])]
    exact this
theorem val_no {kvs : List (Key × V)} {k : Key} (h : k ∉ kvs.map (·.1)) : valV kvs k = none := by
  unfold valV
  rw [List.find?_eq_none.mpr fun x hx y => h (List.mem_map.mpr ⟨x, hx, of_decide_eq_true y⟩)]; rfl
section
variable {P : Program} {w : World} {K : PySem.W.Frag} {mg : Str → Option Value} {base : Heap}
/-! ### the errors -/
theorem len_app (a b : Str) : (a ++ b).length = a.length + b.length := by
  show (a.cps ++ b.cps).size = a.cps.size + b.cps.size
  exact Array.size_append
theorem small2 {x : Nat} (h : x ≤ 2000) : x ≤ sizeLine := Nat.le_trans h (by decide)
def sp_wording : Sp := fun vs H Q _ => ∃ (nm : Str) (i : Int), vs = [.str nm, .int i] ∧ nm.length ≤ 1000 ∧ i.natAbs < 10 ^ 12 ∧ ∀ t : Str, Q (.str t) H
theorem ok_wording (T : Txt K mg) : FnOk P w K mg base CX0 1 T.wording.a T.wording.fd ["name", "at"] sp_wording := by
  refine T.wording.F.ok sc_wording (fun vs H Q E h => ?_) (fun cdv A outer s H vs Q E hr h => ?_)
  · obtain ⟨nm, i, rfl, _⟩ := h
    rfl
  · obtain ⟨nm, i, rfl, hn, h1, q⟩ := h
    refine ⟨_, (pss_cons (ps_if (pt_cmpR op_gt (pe_bits (pv 1)) pe_int (nomark _))
        (pss_one (ps_ret (pe_joined (.cons (pe_fmt (pv 0)) (.cons pe_str (.cons (pe_fmt (pe_bits (pv 1))) (.cons pe_str .nil)))))))
        pss_nil)
      (pss_one (ps_ret (pe_joined (.cons (pe_fmt (pv 0)) (.cons pe_str (.cons (pe_fmt (pv 1)) .nil))))))), ?_⟩
    have e : i.natAbs < 2 ^ 40 := Nat.lt_of_lt_of_le h1 (by decide)
    have hb := LX.bits_le e
    refine ⟨_, rfl, i, rfl, _, _, rfl, rfl, _, rfl, ?_⟩
    rw [decide_eq_false (by omega)]
    have lt : (Str.ofString (toString i)).length ≤ 13 := LX.text_len (by decide) h1
    refine iteF ⟨_, rfl, .inl ⟨nm, rfl, small2 (by omega), nm, rfl, ?_, _, rfl, ?_, _, rfl, .inr ⟨i, rfl, ?_, _, rfl, ?_, q _⟩⟩⟩
    · rw [len_app]; exact small2 (by show 0 + _ ≤ _; omega)
    · rw [len_app, len_app]; exact small2 (by show 0 + _ + 4 ≤ _; omega)
    · exact Nat.lt_of_lt_of_le (PySem.Flt.log2_lt_of (by decide) e) (by decide)
    · rw [len_app, len_app, len_app]; exact small2 (by show 0 + _ + 4 + _ ≤ _; omega)
theorem ok_init (T : Txt K mg) (X : Errs K mg) : FnOk P w K mg base CX0 2 X.e0.f X.e0.fd ["self", "at"] (LX.sp_init K) := by
  refine X.e0.F.ok sc_init (fun vs H Q E h => ?_) (fun cdv A outer s H vs Q E hr h => ?_)
  · obtain ⟨e, C, nm, i, rfl, _⟩ := h
    rfl
  · obtain ⟨e, C, nm, i, rfl, he, hn, ho, na, h1, q⟩ := h
    refine ⟨_, pss_cons (ps_expr (pe_veinit (by rfl) X.e0.mV X.e0.vV (pa_cons (pv 0) (pa_cons (pe_call (ok_wording T) (hr.mono (by decide)) (by rfl) T.wording.g T.wording.F.kp T.wording.b .nil pass0 (pa_cons (LX.pe_cn (pv 0)) (pa_cons (pv 1) pa_nil))) pa_nil))))
      (pss_one (ps_ost (pv 0) (pv 1))), ?_⟩
    refine ⟨.ref e, rfl, .ref e, rfl, e, C, nm, rfl, he, hn, _, rfl, nm, i, rfl, hn.sz, h1, fun t => ⟨e, C, _, rfl, by show 1 ≤ 1000; decide, ho, he, ?_⟩⟩
    exact ⟨_, rfl, .ref e, rfl, e, C, rfl, ho, na, .inl ⟨he, fun d hd ne => q d hd ne⟩⟩
def sp_is_exact (K : PySem.W.Frag) : Sp := fun vs H Q _ => ∃ (v : V) (r : Rw), vs = [v] ∧ RwV K H v r ∧ Q (.bl r.1) H
theorem ok_is_exact (T : Txt K mg) : FnOk P w K mg base CX0 1 T.is_exact.a T.is_exact.fd ["told"] (sp_is_exact K) := by
  refine T.is_exact.F.ok sc_is_exact (fun vs H Q E h => ?_) (fun cdv A outer s H vs Q E hr h => ?_)
  · obtain ⟨v, r, rfl, _⟩ := h
    rfl
  · obtain ⟨v, r, rfl, ⟨t, b, rfl, ht, hb⟩, q⟩ := h
    refine ⟨_, (pss_one (ps_ret (pe_cmpR op_eq (pe_ix ix_tup (pv 0) pe_int (fun _ _ => rfl)) pe_str (nomark _)))), ?_⟩
    refine ⟨.ref t, rfl, t, _, _, _, rfl, rfl, ht, rfl, rfl, ?_⟩
    rw [str_ex]
    exact q
theorem same_x {D : Addr} {H G0 G : Hp} (s : Same H G0) (x : SameX D G0 G) (n : H D = none) : Same H G := fun c o h => x c o (fun z => by rw [z, n] at h; cases h) (s c o h)
/-! ### tight places -/
def tight (ex : Bool) (mark qj : Int) (e : List Int) : Bool := match pw ex e with
  | none => false
  | some k => decide (k = qj - mark)
def tcol (r : Rw) (mark : Int) (qs : List Int) (n : Nat) : List Int := ((List.range n).filter fun j => tight r.1 mark (cf qs j) (r.2.getD j [])).map fun (j : Nat) => (j : Int)
theorem tcol_step {r : Rw} {mark : Int} {qs : List Int} {n : Nat} : tcol r mark qs (n + 1) = tcol r mark qs n ++ if tight r.1 mark (cf qs n) (r.2.getD n []) = true then [(n : Int)] else [] := by
  unfold tcol
  rw [List.range_succ, List.filter_append, List.map_append, List.filter_cons]
  cases tight r.1 mark (cf qs n) (r.2.getD n []) <;> rfl
theorem tcol_asc (r : Rw) (mark : Int) (qs : List Int) (n : Nat) : (tcol r mark qs n).Pairwise (· < ·) := by
  unfold tcol
  rw [List.pairwise_map]
  exact (List.Pairwise.filter _ List.pairwise_lt_range).imp fun h => by omega
theorem tcol_mem {r : Rw} {mark : Int} {qs : List Int} {n : Nat} {k : Int} : k ∈ tcol r mark qs n ↔ ∃ j : Nat, k = (j : Int) ∧ j < n ∧ tight r.1 mark (cf qs j) (r.2.getD j []) = true := by
  unfold tcol
  rw [List.mem_map]
  constructor
  · rintro ⟨j, hj, rfl⟩
    obtain ⟨a, b⟩ := List.mem_filter.mp hj
    exact ⟨j, rfl, List.mem_range.mp a, b⟩
  · rintro ⟨j, rfl, a, b⟩
    exact ⟨j, List.mem_filter.mpr ⟨List.mem_range.mpr a, b⟩, rfl⟩
theorem tcol_len (r : Rw) (mark : Int) (qs : List Int) (n : Nat) : (tcol r mark qs n).length ≤ n := by
  unfold tcol
  rw [List.length_map]
  exact Nat.le_trans (List.length_filter_le _ _) (by rw [List.length_range]; exact Nat.le_refl _)
def sp_tight_columns (K : PySem.W.Frag) : Sp := fun vs H Q _ => ∃ (v : V) (r : Rw) (mark : Int) (q : Addr) (qs : List Int), vs = [v, .int mark, .ref q] ∧ RwV K H v r ∧ SqL K H q (qs.map V.int) ∧ qs.length = r.2.length ∧ qs.length ≤ 16 ∧ ∀ H' p, Same H H' → H p = none → IL H' p (tcol r mark qs qs.length) → Q (.ref p) H'
theorem ok_tight_columns (T : Txt K mg) : FnOk P w K mg base CX0 2 T.tight_columns.a T.tight_columns.fd ["told", "mark", "q"] (sp_tight_columns K) := by
  refine T.tight_columns.F.ok sc_tight_columns (fun vs H Q E h => ?_) (fun cdv A outer s H vs Q E hr h => ?_)
  · obtain ⟨v, r, mark, q, qs, rfl, _⟩ := h
    rfl
  · obtain ⟨v, r, mark, q, qs, rfl, hv, hq, lq, l16, fin⟩ := h
    refine ⟨_, (pss_cons (ps_set (i := 3) sc_tight_columns.nd rfl (.inl rfl) (pe_lst pa_nil))
      (pss_cons (ps_for PassesOwn.never rfl (pi_enum (by rfl) T.m_enumerate (pa_cons (pv 2) pa_nil)) (pg_tup rfl (pgs_cons (pg_name (i := 4) sc_tight_columns.nd rfl (.inl rfl)) (pgs_cons (pg_name (i := 5) sc_tight_columns.nd rfl (.inl rfl)) pgs_nil)))
        (pss_cons (ps_set (i := 6) sc_tight_columns.nd rfl (.inl rfl) (pe_call (ok_power_of T) (hr.mono (by decide)) (by rfl) T.power_of.g T.power_of.F.kp T.power_of.b .nil pass0 (pa_cons (pv 0) (pa_cons (pv 4) pa_nil))))
        (pss_one (ps_if (PW.pt (pw_and (pt_cmpR op_notN (pv 6) pe_non (nomark _)) (pw_and1 (pt_cmpR op_eq (pv 6) (pe_op op_sub (pv 5) (pv 1)) (nomark _)))))
          (pss_one (ps_expr (pe_bm PySem.F.plainAttrs_list PySem.F.slot_list_append PySem.F.type_list_append mt_append (pv 3) (pa_cons (pv 4) pa_nil))))
          pss_nil))))
      (pss_one (ps_ret (pv 3))))), ?_⟩
    refine ⟨by show 0 ≤ sizeLine; decide, fun F nF => ?_⟩
    have s0 := same_upd nF (o := .lst [])
    refine ⟨.ref q, rfl, q, _, rfl, s0.seq hq, ?_⟩
    refine for_it (walk_enum (xs := qs.map V.int)) (fun i σ G => SameX F H G ∧ ∃ (v4 v5 v6 : Option V), σ = [some v, some (.int mark), some (.ref q), some (.ref F), v4, v5, v6] ∧ IL G F (tcol r mark qs i)) ⟨fun c o n h => s0 c o h, none, none, none, rfl, upd_same⟩ (fun i σ G _ hP => ?_) (fun i x σ G Gx hi hP y => ?_) (fun σ G hP => ?_)
    · refine (same_x (Same.refl H) hP.1 nF).seq hq
    · obtain ⟨sx1, v4, v5, v6, rfl, hF⟩ := hP
      obtain ⟨T', i', x', rfl, nT, rfl, ei, hx'⟩ := y
      obtain rfl := Option.some.inj ei
      rw [List.length_map] at hi
      have hx' : (qs.map V.int)[i]? = some x' := hx'
      rw [List.getElem?_map, at_map hi] at hx'
      obtain rfl := Option.some.inj hx'
      have sG := same_x (Same.refl H) sx1 nF
      have s1 := same_upd nT (o := .tup [V.int (i : Nat), V.int (cf qs i)])
      have e1 : tcol r mark qs (i + 1) = _ := tcol_step
      obtain ⟨e, he⟩ := some_at (xs := r.2) (i := i) (by omega)
      have eg : r.2.getD i [] = e := by rw [List.getD_eq_getElem?_getD, he]; rfl
      rw [eg] at e1
      refine ⟨T', _, rfl, .of upd_same, rfl, _, _, rfl, _, _, rfl, rfl, ?_⟩
      refine ⟨v, rfl, _, rfl, v, r, i, e, rfl, (hv.lk (K50.lk sG)).lk (K50.lk s1), he, fun G2 s2 => ?_⟩
      have s12 := s1.trans s2
      have hF2 := hF.same s12
      have ln := tcol_len r mark qs i
      cases hp : pw r.1 e with
      | none =>
        have et : tight r.1 mark (cf qs i) e = false := by unfold tight; rw [hp]
        rw [et] at e1
        refine ⟨_, rfl, rfl, _, rfl, iteF ⟨sx1.trans (sx s12), _, _, _, rfl, ?_⟩⟩
        rw [e1]
        show IL G2 F (_ ++ [])
        rw [List.append_nil]
        exact hF2
      | some k =>
        have et : tight r.1 mark (cf qs i) e = decide (k = cf qs i - mark) := by unfold tight; rw [hp]
        rw [et] at e1
        refine ⟨_, rfl, rfl, _, rfl, iteT ?_⟩
        refine ⟨_, rfl, _, rfl, _, rfl, _, _, rfl, rfl, rfl, ?_⟩
        by_cases z : k = cf qs i - mark
        · rw [decide_eq_true z] at e1
          refine ⟨true, congrArg V.bl (decide_eq_true (congrArg V.int z)), iteT ?_⟩
          refine ⟨.ref F, rfl, .inl ⟨rfl, _, hF2.sq⟩, _, rfl, F, _, _, rfl, rfl, hF2, small' (by rw [List.length_map]; omega), ?_⟩
          refine ⟨(sx1.trans (sx s12)).trans SameX.put, _, _, _, rfl, ?_⟩
          rw [e1]
          show upd G2 F _ F = _
          rw [upd_same, app_ints]; rfl
        · rw [decide_eq_false z] at e1
          refine ⟨false, congrArg V.bl (decide_eq_false fun y => z (V.int.inj y)), iteF ?_⟩
          refine ⟨sx1.trans (sx s12), _, _, _, rfl, ?_⟩
          rw [e1]
          show IL G2 F (_ ++ [])
          rw [List.append_nil]
          exact hF2
    · obtain ⟨sx1, v4, v5, v6, rfl, hF⟩ := hP
      rw [List.length_map] at hF
      exact ⟨.ref F, rfl, fin G F (same_x (Same.refl H) sx1 nF) nF hF⟩
end
-- L
/-! ### frames -/
def ksI (ks : List Int) (kvs : List (Key × V)) : Prop := kvs.map (·.1) = ks.map Sum.inl
def flds (n : Int) (rd td e1 e2 : Addr) : List (Str × V) := putF "sized" (.ref e2) (putF "exact" (.ref e1) (putF "bits" .non (putF "touched" (.ref td) (putF "rows" (.ref rd) (putF "many" (.int n) [])))))
theorem s1 : ¬ (("rows" : Str) = "sized") := by decide +kernel
theorem s2 : ¬ (("rows" : Str) = "exact") := by decide +kernel
theorem s3 : ¬ (("rows" : Str) = "bits") := by decide +kernel
theorem s4 : ¬ (("rows" : Str) = "touched") := by decide +kernel
theorem s5 : ¬ (("touched" : Str) = "sized") := by decide +kernel
theorem s6 : ¬ (("touched" : Str) = "exact") := by decide +kernel
theorem s7 : ¬ (("touched" : Str) = "bits") := by decide +kernel
theorem s8 : ¬ (("exact" : Str) = "sized") := by decide +kernel
theorem f_rows (n : Int) (rd td e1 e2 : Addr) : (flds n rd td e1 e2).lookup ("rows" : Str) = some (.ref rd) := by
  unfold flds
  rw [lookup_putF, if_neg s1, lookup_putF, if_neg s2, lookup_putF, if_neg s3, lookup_putF, if_neg s4, lookup_putF, if_pos rfl]
theorem f_touched (n : Int) (rd td e1 e2 : Addr) : (flds n rd td e1 e2).lookup ("touched" : Str) = some (.ref td) := by
  unfold flds
  rw [lookup_putF, if_neg s5, lookup_putF, if_neg s6, lookup_putF, if_neg s7, lookup_putF, if_pos rfl]
theorem f_exact (n : Int) (rd td e1 e2 : Addr) : (flds n rd td e1 e2).lookup ("exact" : Str) = some (.ref e1) := by
  unfold flds
  rw [lookup_putF, if_neg s8, lookup_putF, if_pos rfl]
theorem f_sized (n : Int) (rd td e1 e2 : Addr) : (flds n rd td e1 e2).lookup ("sized" : Str) = some (.ref e2) := by
  unfold flds
  rw [lookup_putF, if_pos rfl]
theorem len_putF (f : Str) (v : V) : ∀ fs : List (Str × V), (putF f v fs).length ≤ fs.length + 1
  | [] => Nat.le_refl _
  | (g, x) :: r => by
    have := len_putF f v r
    unfold putF
    split
    · exact Nat.le_succ _
    · show (putF f v r).length + 1 ≤ _
      exact Nat.succ_le_succ this
section
variable {P : Program} {w : World} {K : PySem.W.Frag} {mg : Str → Option Value} {base : Heap}
def sp_frame (C : Addr) : Sp := fun vs H Q _ => ∃ (x dx rd td : Addr) (n : Int) (kr kt : List (Key × V)) (ks kz : List Int), vs = [.ref x, .int n, .ref rd, .ref td, .non] ∧ H x = some (.ins C dx []) ∧ H rd = some (.dK kr) ∧ H td = some (.dK kt) ∧
  ksI ks kr ∧ ksI kz kt ∧ ks.Pairwise (· < ·) ∧ kz.Pairwise (· < ·) ∧ ks.length < 64 ∧ kz.length < 64 ∧
  ∀ H' e1 e2, (∀ b o, H b = some o → b ≠ x → H' b = some o) → H e1 = none → H e2 = none → IL H' e1 ks → IL H' e2 kz → H' x = some (.ins C dx (flds n rd td e1 e2)) → Q .non H'
theorem ok_frame (T : Txt K mg) (Y : Frm K mg) : FnOk P w K mg base CX0 1 Y.f Y.fd ["self", "many", "rows", "touched", "bits"] (sp_frame Y.C) := by
  refine Y.F.ok sc_frame (fun vs H Q E h => ?_) (fun cdv A outer s H vs Q E hr h => ?_)
  · obtain ⟨x, dx, rd, td, n, kr, kt, ks, kz, rfl, _⟩ := h
    rfl
  · obtain ⟨x, dx, rd, td, n, kr, kt, ks, kz, rfl, hx, hrd, htd, k1, k2, a1, a2, l1, l2, q⟩ := h
    refine ⟨_, (pss_cons (ps_fld (pv 0) (pv 1) rfl) (pss_cons (ps_fld (pv 0) (pv 2) rfl) (pss_cons (ps_fld (pv 0) (pv 3) rfl) (pss_cons (ps_fld (pv 0) (pv 4) rfl) (pss_cons (ps_fld (pv 0) (pe_callB (call_sortD rfl) (by rfl) T.m_sorted (by decide +kernel) (pa_cons (pv 2) pa_nil)) rfl) (pss_one (ps_fld (pv 0) (pe_callB (call_sortD rfl) (by rfl) T.m_sorted (by decide +kernel) (pa_cons (pv 3) pa_nil)) rfl))))))), ?_⟩
    have nr : rd ≠ x := fun z => by rw [z, hx] at hrd; cases hrd
    have nt : td ≠ x := fun z => by rw [z, hx] at htd; cases htd
    refine ⟨_, rfl, _, rfl, x, Y.C, dx, _, rfl, hx, Y.cl, Y.n_many, by show 0 < 1000; decide, ?_⟩
    refine ⟨_, rfl, _, rfl, x, Y.C, dx, _, rfl, upd_same, Y.cl, Y.n_rows, Nat.lt_of_le_of_lt (len_putF _ _ _) (by show 0 + 1 < 1000; decide), ?_⟩
    refine ⟨_, rfl, _, rfl, x, Y.C, dx, _, rfl, upd_same, Y.cl, Y.n_touched, by have := len_putF "rows" (.ref rd) (putF "many" (.int n) []); have := len_putF "many" (.int n) []; show _ < 1000; have : ([] : List (Str × V)).length = 0 := rfl; omega, ?_⟩
    refine ⟨_, rfl, _, rfl, x, Y.C, dx, _, rfl, upd_same, Y.cl, Y.n_bits, ?_, ?_⟩
    · have := len_putF "touched" (.ref td) (putF "rows" (.ref rd) (putF "many" (.int n) [])); have := len_putF "rows" (.ref rd) (putF "many" (.int n) []); have := len_putF "many" (.int n) []; show _ < 1000; have : ([] : List (Str × V)).length = 0 := rfl; omega
    generalize hf4 : putF "bits" .non (putF "touched" (.ref td) (putF "rows" (.ref rd) (putF "many" (.int n) []))) = f4
    have lf4 : f4.length ≤ 4 := by
      rw [← hf4]
      have := len_putF "bits" .non (putF "touched" (.ref td) (putF "rows" (.ref rd) (putF "many" (.int n) [])))
      have := len_putF "touched" (.ref td) (putF "rows" (.ref rd) (putF "many" (.int n) []))
      have := len_putF "rows" (.ref rd) (putF "many" (.int n) [])
      have := len_putF "many" (.int n) []
      have : ([] : List (Str × V)).length = 0 := rfl
      omega
    have kG : ∀ b o, H b = some o → b ≠ x → upd (upd (upd (upd H x (.ins Y.C dx (putF "many" (.int n) []))) x (.ins Y.C dx (putF "rows" (.ref rd) (putF "many" (.int n) [])))) x (.ins Y.C dx (putF "touched" (.ref td) (putF "rows" (.ref rd) (putF "many" (.int n) []))))) x (.ins Y.C dx f4) b = some o := fun b o h ne => by
      rw [upd_ne ne, upd_ne ne, upd_ne ne, upd_ne ne]; exact h
    have nG : ∀ b, upd (upd (upd (upd H x (.ins Y.C dx (putF "many" (.int n) []))) x (.ins Y.C dx (putF "rows" (.ref rd) (putF "many" (.int n) [])))) x (.ins Y.C dx (putF "touched" (.ref td) (putF "rows" (.ref rd) (putF "many" (.int n) []))))) x (.ins Y.C dx f4) b = none → b ≠ x ∧ H b = none := fun b h => by
      have ne : b ≠ x := fun z => by rw [z, upd_same] at h; cases h
      rw [upd_ne ne, upd_ne ne, upd_ne ne, upd_ne ne] at h
      exact ⟨ne, h⟩
    have xG := upd_same (H := upd (upd (upd H x (.ins Y.C dx (putF "many" (.int n) []))) x (.ins Y.C dx (putF "rows" (.ref rd) (putF "many" (.int n) [])))) x (.ins Y.C dx (putF "touched" (.ref td) (putF "rows" (.ref rd) (putF "many" (.int n) []))))) (a := x) (o := .ins Y.C dx f4)
    generalize upd (upd (upd (upd H x (.ins Y.C dx (putF "many" (.int n) []))) x (.ins Y.C dx (putF "rows" (.ref rd) (putF "many" (.int n) [])))) x (.ins Y.C dx (putF "touched" (.ref td) (putF "rows" (.ref rd) (putF "many" (.int n) []))))) x (.ins Y.C dx f4) = G at kG nG xG
    refine ⟨_, rfl, rd, kr, ks, rfl, .inl (kG _ _ hrd nr), k1, l1, a1, fun e1 n1 => ?_⟩
    have q1 := same_upd n1 (o := .lst (ks.map V.int))
    have x1 := q1 _ _ xG
    refine ⟨_, rfl, x, Y.C, dx, _, rfl, x1, Y.cl, Y.n_exact, by omega, ?_⟩
    have e1x : e1 ≠ x := (nG e1 n1).1
    have td2 : upd (upd G e1 (.lst (ks.map V.int))) x (.ins Y.C dx (putF "exact" (.ref e1) f4)) td = some (.dK kt) := by
      rw [upd_ne nt]; exact q1 _ _ (kG _ _ htd nt)
    refine ⟨_, rfl, td, kt, kz, rfl, .inl td2, k2, l2, a2, fun e2 n2 => ?_⟩
    have e2x : e2 ≠ x := fun z => by rw [z, upd_same] at n2; cases n2
    have n2G : G e2 = none := by
      rw [upd_ne e2x] at n2
      exact q1.free n2
    have e12 : e1 ≠ e2 := fun z => by
      rw [← z, upd_ne e1x, upd_same] at n2
      cases n2
    refine ⟨_, rfl, x, Y.C, dx, _, rfl, by rw [upd_ne e2x.symm, upd_same], Y.cl, Y.n_sized, by have := len_putF "exact" (.ref e1) f4; omega, ?_⟩
    refine q _ e1 e2 (fun b o h ne => ?_) (nG e1 n1).2 (nG e2 n2G).2 ?_ ?_ ?_
    · have hG := kG b o h ne
      rw [upd_ne ne, upd_ne (fun z => by rw [z, n2G] at hG; cases hG), upd_ne ne]
      exact q1 _ _ hG
    · show upd _ x _ e1 = _
      rw [upd_ne e1x, upd_ne e12, upd_ne e1x, upd_same]
    · show upd _ x _ e2 = _
      rw [upd_ne e2x, upd_same]
    · rw [upd_same, ← hf4]; rfl
end
-- M
/-! ### the frame of a grid -/
def lst (e : List Int) : Int := cf e (e.length - 1)
def trow (r : Rw) (mark : Int) (qs : List Int) : List Int := (List.range qs.length).map fun j => if tight r.1 mark (cf qs j) (r.2.getD j []) = true then lst (r.2.getD j []) else 0
def zset (r : Rw) (row : List Int) (k : Int) : List Int := row.set k.toNat (lst (r.2.getD k.toNat []))
theorem zset_len (r : Rw) : ∀ (ks : List Int) (row : List Int), (ks.foldl (zset r) row).length = row.length
  | [], _ => rfl
  | k :: ks, row => by rw [List.foldl_cons, zset_len r ks]; unfold zset; rw [List.length_set]
theorem zfold {r : Rw} {mark : Int} {qs : List Int} {many : Nat} : ∀ n, n ≤ many → (tcol r mark qs n).foldl (zset r) (List.replicate many 0) = (List.range many).map fun j => if j < n ∧ tight r.1 mark (cf qs j) (r.2.getD j []) = true then lst (r.2.getD j []) else 0
  | 0, _ => by
    refine List.ext_getElem (by show (List.replicate many (0 : Int)).length = _; rw [List.length_replicate, List.length_map, List.length_range]) fun j h1 h2 => ?_
    rw [List.getElem_map, List.getElem_range, if_neg (fun z => Nat.not_lt_zero _ z.1)]
    exact List.getElem_replicate ..
  | n + 1, hn => by
    rw [tcol_step, List.foldl_append, zfold n (by omega)]
    by_cases z : tight r.1 mark (cf qs n) (r.2.getD n []) = true
    · rw [if_pos z]
      show zset r _ (n : Int) = _
      unfold zset
      rw [Int.toNat_natCast]
      refine List.ext_getElem (by rw [List.length_set, List.length_map, List.length_map]) fun j h1 h2 => ?_
      rw [List.getElem_set, List.getElem_map, List.getElem_map, List.getElem_range]
      by_cases e : n = j
      · subst e
        rw [if_pos rfl, if_pos ⟨Nat.lt_succ_self _, z⟩]
      · rw [if_neg e]
        by_cases y : j < n ∧ tight r.1 mark (cf qs j) (r.2.getD j []) = true
        · rw [if_pos y, if_pos ⟨by omega, y.2⟩]
        · rw [if_neg y, if_neg fun w => y ⟨by omega, w.2⟩]
    · rw [if_neg z]
      show List.map _ _ = _
      refine List.map_congr_left fun j hj => ?_
      by_cases y : j < n ∧ tight r.1 mark (cf qs j) (r.2.getD j []) = true
      · rw [if_pos y, if_pos ⟨by omega, y.2⟩]
      · rw [if_neg y, if_neg fun w => y ⟨by
          have : j ≠ n := fun u => z (u ▸ w.2)
          omega, w.2⟩]
theorem zfull {r : Rw} {mark : Int} {qs : List Int} : (tcol r mark qs qs.length).foldl (zset r) (List.replicate qs.length 0) = trow r mark qs := by
  rw [zfold qs.length (Nat.le_refl _)]
  unfold trow
  refine List.map_congr_left fun j hj => ?_
  have hj := List.mem_range.mp hj
  by_cases y : tight r.1 mark (cf qs j) (r.2.getD j []) = true
  · rw [if_pos ⟨hj, y⟩, if_pos y]
  · rw [if_neg fun w => y w.2, if_neg y]
def rw0 (rs : List Rw) (i : Nat) : Rw := rs.getD i (false, [])
def exL (rs : List Rw) (ps qs : List Int) (n : Nat) : List (Int × List Int) := (List.range n).filterMap fun i => if (rw0 rs i).1 = true then some ((i : Int), trow (rw0 rs i) (cf ps i) qs) else none
def tcL (rs : List Rw) (ps qs : List Int) (n : Nat) : List (Int × List Int) := (List.range n).filterMap fun i => if (rw0 rs i).1 = true then none else some ((i : Int), tcol (rw0 rs i) (cf ps i) qs qs.length)
theorem exL_step {rs : List Rw} {ps qs : List Int} {n : Nat} : exL rs ps qs (n + 1) = exL rs ps qs n ++ if (rw0 rs n).1 = true then [((n : Int), trow (rw0 rs n) (cf ps n) qs)] else [] := by
  unfold exL
  rw [List.range_succ, List.filterMap_append]
  cases h : (rw0 rs n).1 <;> simp [h]
theorem tcL_step {rs : List Rw} {ps qs : List Int} {n : Nat} : tcL rs ps qs (n + 1) = tcL rs ps qs n ++ if (rw0 rs n).1 = true then [] else [((n : Int), tcol (rw0 rs n) (cf ps n) qs qs.length)] := by
  unfold tcL
  rw [List.range_succ, List.filterMap_append]
  cases h : (rw0 rs n).1 <;> simp [h]
theorem exL_lt {rs : List Rw} {ps qs : List Int} : ∀ n, ∀ p ∈ exL rs ps qs n, p.1 < (n : Int) := fun n p hp => by
  obtain ⟨i, hi, z⟩ := List.mem_filterMap.mp hp
  have hi := List.mem_range.mp hi
  split at z
  · cases z; show (i : Int) < n; omega
  · cases z
theorem tcL_lt {rs : List Rw} {ps qs : List Int} : ∀ n, ∀ p ∈ tcL rs ps qs n, p.1 < (n : Int) := fun n p hp => by
  obtain ⟨i, hi, z⟩ := List.mem_filterMap.mp hp
  have hi := List.mem_range.mp hi
  split at z
  · cases z
  · cases z; show (i : Int) < n; omega
theorem exL_asc {rs : List Rw} {ps qs : List Int} : ∀ n, ((exL rs ps qs n).map (·.1)).Pairwise (· < ·)
  | 0 => .nil
  | n + 1 => by
    rw [exL_step, List.map_append]
    refine List.pairwise_append.mpr ⟨exL_asc n, by split <;> simp, fun a ha b hb => ?_⟩
    obtain ⟨p, hp, rfl⟩ := List.mem_map.mp ha
    have := exL_lt n p hp
    split at hb
    · simp at hb; omega
    · simp at hb
theorem tcL_asc {rs : List Rw} {ps qs : List Int} : ∀ n, ((tcL rs ps qs n).map (·.1)).Pairwise (· < ·)
  | 0 => .nil
  | n + 1 => by
    rw [tcL_step, List.map_append]
    refine List.pairwise_append.mpr ⟨tcL_asc n, by split <;> simp, fun a ha b hb => ?_⟩
    obtain ⟨p, hp, rfl⟩ := List.mem_map.mp ha
    have := tcL_lt n p hp
    split at hb
    · simp at hb
    · simp at hb; omega
theorem exL_len {rs : List Rw} {ps qs : List Int} (n : Nat) : (exL rs ps qs n).length ≤ n := Nat.le_trans (List.length_filterMap_le _ _) (by rw [List.length_range]; exact Nat.le_refl _)
theorem tcL_len {rs : List Rw} {ps qs : List Int} (n : Nat) : (tcL rs ps qs n).length ≤ n := Nat.le_trans (List.length_filterMap_le _ _) (by rw [List.length_range]; exact Nat.le_refl _)
def dcK (ks : List Int) : List (Key × V) := ks.map fun j => (Sum.inl j, V.bl true)
def RK (rd td : Addr) (H : Hp) (kv : Key × V) (p : Int × List Int) : Prop := kv.1 = Sum.inl p.1 ∧ ∃ a, kv.2 = .ref a ∧ Of rd td a ∧ IL H a p.2
def TK (rd td : Addr) (H : Hp) (kv : Key × V) (p : Int × List Int) : Prop := kv.1 = Sum.inl p.1 ∧ ∃ a, kv.2 = .ref a ∧ Of rd td a ∧ H a = some (.dK (dcK p.2))
theorem RK.up {rd td : Addr} {H H' : Hp} {kv : Key × V} {p : Int × List Int} (s : SP rd td H H') (h : RK rd td H kv p) : RK rd td H' kv p := let ⟨e, a, e2, n, z⟩ := h; ⟨e, a, e2, n, s _ _ n z⟩
theorem TK.up {rd td : Addr} {H H' : Hp} {kv : Key × V} {p : Int × List Int} (s : SP rd td H H') (h : TK rd td H kv p) : TK rd td H' kv p := let ⟨e, a, e2, n, z⟩ := h; ⟨e, a, e2, n, s _ _ n z⟩
theorem keys_of {α : Type} {R : Key × V → Int × α → Prop} (f : ∀ kv p, R kv p → kv.1 = Sum.inl p.1) : ∀ {kr : List (Key × V)} {l : List (Int × α)}, A2 R kr l → kr.map (·.1) = (l.map (·.1)).map Sum.inl
  | _, _, .nil => rfl
  | _, _, .cons h t => by rw [List.map_cons, List.map_cons, List.map_cons, f _ _ h, keys_of f t]
theorem not_key {α : Type} {R : Key × V → Int × α → Prop} (f : ∀ kv p, R kv p → kv.1 = Sum.inl p.1) {kr : List (Key × V)} {l : List (Int × α)} (h : A2 R kr l) {n : Int} (hn : ∀ p ∈ l, p.1 < n) : valV kr (Sum.inl n) = none := val_no (by
  rw [keys_of f h]
  intro z
  obtain ⟨k, hk, e⟩ := List.mem_map.mp z
  obtain ⟨p, hp, rfl⟩ := List.mem_map.mp hk
  have := hn p hp
  cases e
  omega)
/-- a frame as it stands -/
def FrameAt (C : Addr) (H : Hp) (x : Addr) (rs : List Rw) (ps qs : List Int) (many : Nat) : Prop := ∃ (dx rd td e1 e2 : Addr) (n : Int) (kr kt : List (Key × V)), H x = some (.ins C dx (flds n rd td e1 e2)) ∧ H rd = some (.dK kr) ∧ H td = some (.dK kt) ∧
  A2 (RK rd td H) kr (exL rs ps qs many) ∧ A2 (TK rd td H) kt (tcL rs ps qs many) ∧ IL H e1 ((exL rs ps qs many).map (·.1)) ∧ IL H e2 ((tcL rs ps qs many).map (·.1))
section
variable {P : Program} {w : World} {K : PySem.W.Frag} {mg : Str → Option Value} {base : Heap}
def sp_tight_frame (K : PySem.W.Frag) (C : Addr) : Sp := fun vs H Q _ => ∃ (g p q : Addr) (rs : List Rw) (ps qs : List Int) (many : Nat), vs = [.ref g, .ref p, .ref q] ∧ GR K H g rs ∧ VG many rs ∧ many ≤ 16 ∧ SqL K H p (ps.map V.int) ∧ SqL K H q (qs.map V.int) ∧ ps.length = many ∧ qs.length = many ∧
  ∀ H' x, Same H H' → FrameAt C H' x rs ps qs many → Q (.ref x) H'
theorem ok_tight_frame (T : Txt K mg) (Y : Frm K mg) : FnOk P w K mg base CX0 3 T.tight_frame.a T.tight_frame.fd ["grid", "p", "q"] (sp_tight_frame K Y.C) := by
  refine T.tight_frame.F.ok sc_tight_frame (fun vs H Q E h => ?_) (fun cdv A outer s H vs Q E hr h => ?_)
  · obtain ⟨g, p, q, rs, ps, qs, many, rfl, _⟩ := h
    rfl
  · obtain ⟨g, p, q, rs, ps, qs, many, rfl, hg, vg, hm, hp, hq, lp, lq, fin⟩ := h
    obtain ⟨xs, hx, hA⟩ := hg
    have lx := hA.len
    have lr := vg.1
    refine ⟨_, (pss_cons (ps_par (i := 3) (j := 4) (by rfl) sc_tight_frame.nd rfl rfl (by decide) rfl rfl (pa_cons pe_dnewK (pa_cons pe_dnewK pa_nil)) (by rfl))
      (pss_cons (ps_for PassesOwn.never rfl (pi_enum (by rfl) T.m_enumerate (pa_cons (pv 0) pa_nil)) (pg_tup rfl (pgs_cons (pg_name (i := 5) sc_tight_frame.nd rfl (.inl rfl)) (pgs_cons (pg_name (i := 6) sc_tight_frame.nd rfl (.inl rfl)) pgs_nil)))
        (pss_cons (ps_set (i := 7) sc_tight_frame.nd rfl (.inl rfl) (pe_call (ok_tight_columns T) (hr.mono (by decide)) (by rfl) T.tight_columns.g T.tight_columns.F.kp T.tight_columns.b .nil pass0 (pa_cons (pv 6) (pa_cons (pe_ix ix_list (pv 1) (pv 5) (fun _ _ => rfl)) (pa_cons (pv 2) pa_nil)))))
        (pss_one (ps_if (pt_val (pe_call (ok_is_exact T) (hr.mono (by decide)) (by rfl) T.is_exact.g T.is_exact.F.kp T.is_exact.b .nil pass0 (pa_cons (pv 6) pa_nil)))
          (pss_cons (ps_dput (hu_of hr) (pv 3) (pv 5) (pe_op op_rep (pe_lst (pa_cons pe_int pa_nil)) (pe_callB call_len_seq (by rfl) T.m_len (by decide +kernel) (pa_cons (pv 0) pa_nil))) rfl)
          (pss_one (ps_for PassesOwn.never rfl (pi_list (pv 7)) (pg_name (i := 8) sc_tight_frame.nd rfl (.inl rfl))
            (pss_one (ps_asg (pe_ix ix_list (pe_ix ix_list (pe_ix ix_tup (pv 6) pe_int (fun _ _ => rfl)) (pv 8) (fun _ _ => rfl)) (pe_un un_neg pe_int) (fun _ _ => rfl)) (pg_sub (pe_dget (hu_of hr) (pv 3) (pv 5) (fun _ _ => rfl)) (pv 8) set_list))))))
          (pss_one (ps_dput (hu_of hr) (pv 4) (pv 5) (pe_dc (own := [("j", 8)]) rfl sc_tight_frame.nd (pi_list (pv 7)) (blkOk_by (N := ["grid", "p", "q", "rows", "touched", "i", "told", "columns", "j"]) (sc := defScope s_tight_frame) (by decide +kernel)) (fun _ _ _ _ _ => (pg_name (i := 8) sc_tight_frame.nd rfl (.inl rfl))) (fun _ _ _ _ _ => pts_nil) (fun _ _ _ _ _ => (pv 8)) (fun _ _ _ _ _ => pe_bl)) rfl))))))
      (pss_one (ps_ret (pe_make Y.M (ok_frame T Y) (hr.mono (by decide)) (by rfl) Y.g Y.b .nil pass0 (pa_cons (pe_callB call_len_seq (by rfl) T.m_len (by decide +kernel) (pa_cons (pv 0) pa_nil)) (pa_cons (pv 3) (pa_cons (pv 4) (pa_cons pe_non pa_nil))))))))), ?_⟩
    intro rd nrd
    have s0 := same_upd nrd (o := .dK [])
    intro td ntd
    have s1 := s0.trans (same_upd ntd (o := .dK []))
    have tr : td ≠ rd := fun z => by rw [z, upd_same] at ntd; cases ntd
    have ntd0 : H td = none := s0.free ntd
    refine ⟨_, _, rfl, ?_⟩
    have s2 := s1
    have hrd2 : upd (upd H rd (.dK [])) td (.dK []) rd = some (.dK []) := by rw [upd_ne tr.symm, upd_same]
    have htd2 := upd_same (H := upd H rd (.dK [])) (a := td) (o := .dK [])
    refine ⟨.ref g, rfl, g, _, rfl, .of (s2 _ _ hx), ?_⟩
    generalize upd (upd H rd (.dK [])) td (.dK []) = G0 at s2 hrd2 htd2
    refine for_it (walk_enum (xs := xs)) (fun i σ G => Same H G ∧ ∃ (v5 v6 v7 v8 : Option V) (kr kt : List (Key × V)), σ = [some (.ref g), some (.ref p), some (.ref q), some (.ref rd), some (.ref td), v5, v6, v7, v8] ∧ G rd = some (.dK kr) ∧ G td = some (.dK kt) ∧ A2 (RK rd td G) kr (exL rs ps qs i) ∧ A2 (TK rd td G) kt (tcL rs ps qs i)) ⟨s2, none, none, none, none, [], [], rfl, hrd2, htd2, .nil, .nil⟩ (fun i σ G _ hP => .of (hP.1 _ _ hx)) (fun i x σ G Gx hi hP y => ?_) (fun σ G hP => ?_)
    · obtain ⟨sm, v5, v6, v7, v8, kr, kt, rfl, hrd, htd, hR, hT⟩ := hP
      obtain ⟨T', i', x', rfl, nT, rfl, ei, hx'⟩ := y
      obtain rfl := Option.some.inj ei
      have hx' : xs[i]? = some x' := hx'
      obtain ⟨r, hr2, hV⟩ := hA.get hx'
      have er : rw0 rs i = r := by unfold rw0; rw [List.getD_eq_getElem?_getD, hr2]; rfl
      have lrow := (vg.2 r (mem_at hr2)).1
      have q1 := same_upd nT (o := .tup [V.int (i : Nat), x'])
      have sm1 := sm.trans q1
      refine ⟨T', _, rfl, .of upd_same, rfl, _, _, rfl, _, _, rfl, rfl, ?_⟩
      refine ⟨x', rfl, .ref p, rfl, _, rfl, p, _, _, _, rfl, rfl, sm1.seq hp, at_map' (m := i) rfl (by omega), .ref q, rfl, x', r, _, q, qs, rfl, hV.lk (K50.lk sm1), sm1.seq hq, by omega, by omega, fun G2 c q2 nc hc => ?_⟩
      have q12 := q1.trans q2
      have sm2 := sm.trans q12
      refine ⟨x', rfl, x', r, rfl, hV.lk (K50.lk sm2), _, rfl, ?_⟩
      have hrd2 := q12 _ _ hrd
      have htd2 := q12 _ _ htd
      have lkr := hR.len
      have lkt := hT.len
      have l1 := exL_len (rs := rs) (ps := ps) (qs := qs) i
      have l2 := tcL_len (rs := rs) (ps := ps) (qs := qs) i
      have lc := tcol_len r (cf ps i) qs qs.length
      have stE := exL_step (rs := rs) (ps := ps) (qs := qs) (n := i)
      have stT := tcL_step (rs := rs) (ps := ps) (qs := qs) (n := i)
      rw [er] at stE stT
      have RN2 : ∀ {c : Addr}, G2 c = none → Of rd td c := fun {c} z => of_new (by rw [hrd2]; exact fun z => nomatch z) (by rw [htd2]; exact fun z => nomatch z) z
      cases e : r.1 with
      | true =>
        rw [e] at stE stT
        rw [if_pos rfl] at stE stT
        rw [List.append_nil] at stT
        have lxx := hx
        refine iteT ⟨by show 1 ≤ sizeLine; decide, fun l0 n0 => ?_⟩
        have q3 := same_upd n0 (o := .lst [.int 0])
        refine ⟨.ref g, rfl, g, _, rfl, .inl (.of (q3 _ _ (sm2 _ _ hx))), l0, (many : Nat), [.int 0], rfl, by rw [lx, lr], upd_same, by omega, by omega, by show 1 * _ ≤ _; rw [Int.toNat_natCast]; exact small (by omega), fun a na => ?_⟩
        rw [Int.toNat_natCast, rep0]
        have q4a := same_upd na (o := .lst ((List.replicate many (0 : Int)).map V.int))
        have q4 := q3.trans q4a
        have ra : Of rd td a := RN2 (q3.free na)
        have hrd4 := q4 _ _ hrd2
        have hno : valV kr (Sum.inl (i : Int)) = none := not_key (fun _ _ z => z.1) hR (exL_lt i)
        refine ⟨_, rfl, _, rfl, rd, _, rfl, DPut.k (k := Sum.inl (i : Int)) hrd4 (small' (by omega)), ?_⟩
        rw [putK_new _ hno]
        have sp5 : SP rd td G2 (upd (upd (upd G2 l0 (.lst [.int 0])) a (.lst ((List.replicate many (0 : Int)).map V.int))) rd (.dK (kr ++ [(Sum.inl (i : Int), .ref a)]))) := (spS q4).trans spG
        have ha5 : IL (upd (upd (upd G2 l0 (.lst [.int 0])) a (.lst ((List.replicate many (0 : Int)).map V.int))) rd (.dK (kr ++ [(Sum.inl (i : Int), .ref a)]))) a (List.replicate many 0) := by
          show upd _ rd _ a = _
          rw [upd_ne ra.1, upd_same]
        have hrd5 := upd_same (H := upd (upd G2 l0 (.lst [.int 0])) a (.lst ((List.replicate many (0 : Int)).map V.int))) (a := rd) (o := .dK (kr ++ [(Sum.inl (i : Int), .ref a)]))
        have htd5 : upd (upd (upd G2 l0 (.lst [.int 0])) a (.lst ((List.replicate many (0 : Int)).map V.int))) rd (.dK (kr ++ [(Sum.inl (i : Int), .ref a)])) td = some (.dK kt) := by rw [upd_ne tr]; exact q4 _ _ htd2
        have sH5 : Same H (upd (upd (upd G2 l0 (.lst [.int 0])) a (.lst ((List.replicate many (0 : Int)).map V.int))) rd (.dK (kr ++ [(Sum.inl (i : Int), .ref a)]))) := same_over (sm2.trans q4) nrd
        have na2 : G2 a = none := q3.free na
        generalize upd (upd (upd G2 l0 (.lst [.int 0])) a (.lst ((List.replicate many (0 : Int)).map V.int))) rd (.dK (kr ++ [(Sum.inl (i : Int), .ref a)])) = G5 at sp5 ha5 hrd5 htd5 sH5
        have cOf : Of rd td c := of_new (H := G) (by rw [hrd]; exact fun z => nomatch z) (by rw [htd]; exact fun z => nomatch z) (q1.free nc)
        have hc5 : IL G5 c (tcol r (cf ps i) qs qs.length) := sp5 _ _ cOf hc
        have ca : c ≠ a := fun z => by
          have hc : G2 c = _ := hc
          rw [z, na2] at hc
          cases hc
        have hval : valV (kr ++ [(Sum.inl (i : Int), V.ref a)]) (Sum.inl (i : Int)) = some (.ref a) := by
          rw [← putK_new _ hno, valV_put, if_pos rfl]
        obtain ⟨tt, b, rfl, hts, as, hb, hE⟩ := hV
        have las := hE.len
        have Han : H a = none := (sm2.trans q3).free na
        refine ⟨.ref c, rfl, c, rfl, ⟨_, hc5.sq⟩, ?_⟩
        refine for_it (walk_list (xs := (tcol r (cf ps i) qs qs.length).map V.int)) (fun t σ G6 => SameX a G5 G6 ∧ ∃ (v8 : Option V), σ = [some (.ref g), some (.ref p), some (.ref q), some (.ref rd), some (.ref td), some (.int (i : Nat)), some (.ref tt), some (.ref c), v8] ∧ IL G6 a (((tcol r (cf ps i) qs qs.length).take t).foldl (zset r) (List.replicate many 0))) ⟨fun _ _ _ h => h, _, rfl, ha5⟩ (fun t σ G6 _ hP => ?_) (fun t x σ G6 Gx ht hP y => ?_) (fun σ G6 hP => ?_)
        · exact .of (hP.1 _ _ ca hc5)
        · obtain ⟨sx6, v8, rfl, ha6⟩ := hP
          obtain ⟨rfl, hxt⟩ := y
          rw [List.length_map] at ht
          obtain ⟨k0, hk0⟩ := some_at (xs := tcol r (cf ps i) qs qs.length) (i := t) ht
          rw [List.getElem?_map, hk0] at hxt
          obtain rfl := Option.some.inj hxt
          obtain ⟨j, rfl, hj, htj⟩ := tcol_mem.mp (mem_at hk0)
          obtain ⟨el, hel⟩ := some_at (xs := r.2) (i := j) (by omega)
          have eg : r.2.getD j [] = el := by rw [List.getD_eq_getElem?_getD, hel]; rfl
          have hne : el ≠ [] := fun z => by rw [eg, z] at htj; cases htj
          obtain ⟨ad, had, hI⟩ := hE.get' hel
          have old6 : ∀ {u : Addr} {o : HO}, H u = some o → Gx u = some o := fun {u o} h => sx6 u o (fun z => by rw [z, Han] at h; cases h) (sH5 _ _ h)
          have hb6 := old6 hb
          have hI6 : IL Gx ad el := old6 hI
          have hts6 : SqT K Gx tt [.str (kS r.1), .ref b] := by
            rcases hts with (h | ⟨o, h⟩) | h
            · exact .inl (.inl (old6 h))
            · exact .inl (.inr ⟨o, old6 h⟩)
            · exact .inr h
          have hrd6 := sx6 _ _ ra.1.symm hrd5
          refine ⟨.ref tt, rfl, tt, _, _, _, rfl, rfl, hts6, rfl, _, rfl, b, _, _, .ref ad, rfl, rfl, .of hb6, atI_nat (by rw [List.getElem?_map, had]; rfl), _, rfl, ad, _, _, _, rfl, rfl, hI6.sq, at_last hne, ?_⟩
          refine ⟨.ref rd, rfl, _, rfl, rd, .ref a, rfl, by rw [← hval]; exact DGet.k (k := Sum.inl (i : Int)) hrd6, _, rfl, a, _, _, j, rfl, rfl, ha6, ix_ok rfl (by rw [List.length_map, zset_len, List.length_replicate]; omega), ?_⟩
          refine ⟨sx6.trans SameX.put, _, rfl, ?_⟩
          rw [take_snoc hk0, List.foldl_append]
          show upd Gx a _ a = some (.lst ((zset r _ (j : Int)).map V.int))
          rw [upd_same]
          unfold zset
          rw [Int.toNat_natCast, eg, ← List.map_set]; rfl
        · obtain ⟨sx6, v8, rfl, ha6⟩ := hP
          rw [List.take_of_length_le (by rw [List.length_map]; exact Nat.le_refl _), ← lq, zfull] at ha6
          have sp6 : ∀ {u : Addr} {o : HO}, u ≠ a → G5 u = some o → G6 u = some o := fun {u o} n h => sx6 u o n h
          have spR : ∀ {kv pp}, RK rd td G2 kv pp → RK rd td G6 kv pp := fun {kv pp} ⟨e0, a0, e1, n1, z⟩ => ⟨e0, a0, e1, n1, sp6 (fun y => by have z : G2 a0 = _ := z; rw [y, na2] at z; cases z) (sp5 _ _ n1 z)⟩
          have spT : ∀ {kv pp}, TK rd td G2 kv pp → TK rd td G6 kv pp := fun {kv pp} ⟨e0, a0, e1, n1, z⟩ => ⟨e0, a0, e1, n1, sp6 (fun y => by rw [y, na2] at z; cases z) (sp5 _ _ n1 z)⟩
          refine ⟨same_x sH5 sx6 Han, _, _, _, _, kr ++ [(Sum.inl (i : Int), .ref a)], kt, rfl, sp6 ra.1.symm hrd5, sp6 ra.2.symm htd5, ?_, ?_⟩
          · rw [stE]
            exact A2.snoc ⟨rfl, a, rfl, ra, ha6⟩ (hR.mono fun _ _ z => spR (z.up (spS q12)))
          · rw [stT]
            exact hT.mono fun _ _ z => spT (z.up (spS q12))
      | false =>
        rw [e] at stE stT
        rw [if_neg (fun z => nomatch z)] at stE stT
        rw [List.append_nil] at stE
        have nd : (tcol r (cf ps i) qs qs.length).Nodup := (tcol_asc _ _ _ _).imp fun h => by omega
        refine iteF ⟨.ref c, rfl, c, rfl, ⟨_, hc.sq⟩, fun D nD => ?_⟩
        refine ⟨fun t m G3 => m = (tcol r (cf ps i) qs qs.length).length - t ∧ t ≤ (tcol r (cf ps i) qs qs.length).length ∧ Same G2 G3 ∧ G3 D = some (.dK (dcK ((tcol r (cf ps i) qs qs.length).take t))), ⟨_, rfl, Nat.zero_le _, same_upd nD, upd_same⟩, ?_⟩
        rintro t m G3 ⟨rfl, ht, s3, hD⟩
        have wl := walk_list (K := K) (a := c) (xs := (tcol r (cf ps i) qs qs.length).map V.int)
        rw [List.length_map] at wl
        by_cases lt : t < (tcol r (cf ps i) qs qs.length).length
        · refine .inr ⟨wl.goes t G3 lt (hc.same s3).sq, fun G4 => Same G2 G4 ∧ G4 D = some (.dK (dcK ((tcol r (cf ps i) qs qs.length).take (t + 1)))), fun G4 h => ⟨_, ?_, rfl, lt, h.1, h.2⟩, fun x Gx y => ?_⟩
          · omega
          · obtain ⟨rfl, hxt⟩ := wl.yields t G3 x Gx lt (hc.same s3).sq y
            obtain ⟨k0, hk0⟩ := some_at lt
            rw [List.getElem?_map, hk0] at hxt
            obtain rfl := Option.some.inj hxt
            have hno : valV (dcK ((tcol r (cf ps i) qs qs.length).take t)) (Sum.inl k0) = none := val_no (by
              intro z
              obtain ⟨kv, hkv, e1⟩ := List.mem_map.mp z
              obtain ⟨j, hj, rfl⟩ := List.mem_map.mp hkv
              cases e1
              obtain ⟨u, hu, e2⟩ := List.getElem_of_mem hj
              rw [List.getElem_take] at e2
              rw [List.length_take] at hu
              have := List.getElem?_eq_some_iff.mp hk0
              obtain ⟨h1, h2⟩ := this
              have := (List.nodup_iff_pairwise_ne.mp nd)
              have := List.pairwise_iff_getElem.mp this u t (by omega) h1 (by omega)
              exact this (e2.trans h2.symm))
            refine ⟨rfl, _, rfl, _, Sum.inl k0, rfl, hD, small' (by unfold dcK; rw [List.length_map, List.length_take]; omega), ?_⟩
            rw [putK_new _ hno]
            refine ⟨same_over s3 nD, ?_⟩
            rw [upd_same, take_snoc hk0]
            unfold dcK
            rw [List.map_append]; rfl
        · refine .inl ⟨?_, ?_⟩
          · have : t = (tcol r (cf ps i) qs qs.length).length := by omega
            rw [this]
            exact wl.stops G3 (hc.same s3).sq
          · rw [List.take_of_length_le (by omega)] at hD
            have htd3 := s3 _ _ htd2
            have hno : valV kt (Sum.inl (i : Int)) = none := not_key (fun _ _ z => z.1) hT (tcL_lt i)
            refine ⟨_, rfl, _, rfl, td, _, rfl, DPut.k (k := Sum.inl (i : Int)) htd3 (small' (by omega)), ?_⟩
            rw [putK_new _ hno]
            have sp4 : SP rd td G (upd G3 td (.dK (kt ++ [(Sum.inl (i : Int), .ref D)]))) := (spS (q12.trans s3)).trans spX
            have rD : Of rd td D := RN2 nD
            refine ⟨same_over (sm2.trans s3) ntd0, _, _, _, _, kr, kt ++ [(Sum.inl (i : Int), .ref D)], rfl, by rw [upd_ne tr.symm]; exact s3 _ _ hrd2, upd_same, ?_, ?_⟩
            · rw [stE]
              exact hR.mono fun _ _ z => z.up sp4
            · rw [stT]
              exact A2.snoc ⟨rfl, D, rfl, rD, by rw [upd_ne rD.2]; exact hD⟩ (hT.mono fun _ _ z => z.up sp4)
    · obtain ⟨sm, v5, v6, v7, v8, kr, kt, rfl, hrd, htd, hR, hT⟩ := hP
      rw [lx, lr] at hR hT
      have l1 := exL_len (rs := rs) (ps := ps) (qs := qs) many
      have l2 := tcL_len (rs := rs) (ps := ps) (qs := qs) many
      refine ⟨.ref g, rfl, g, _, rfl, .inl (.of (sm _ _ hx)), _, rfl, _, rfl, fun x dx nx ndx nex => ?_⟩
      have u1 := same_upd ndx (o := .own x)
      have nx2 : upd G dx (.own x) x = none := by rw [upd_ne nex.symm]; exact nx
      have u2 := u1.trans (same_upd nx2 (o := .ins Y.C dx []))
      refine ⟨x, dx, rd, td, _, kr, kt, (exL rs ps qs many).map (fun (p : Int × List Int) => p.1), (tcL rs ps qs many).map (fun (p : Int × List Int) => p.1), rfl, upd_same, u2 _ _ hrd, u2 _ _ htd, keys_of (fun _ _ z => z.1) hR, keys_of (fun _ _ z => z.1) hT, exL_asc many, tcL_asc many, by rw [List.length_map]; omega, by rw [List.length_map]; omega, fun H' e1 e2 kp n1 n2 h1 h2 h3 => ⟨rfl, ?_⟩⟩
      have kG : Same G H' := fun b o h => kp b o (u2 b o h) (fun z => by rw [z, nx] at h; cases h)
      exact fin H' x (sm.trans kG) ⟨dx, rd, td, e1, e2, _, kr, kt, h3, kG _ _ hrd, kG _ _ htd, hR.mono fun _ _ z => z.up (spS kG), hT.mono fun _ _ z => z.up (spS kG), h1, h2⟩
end
-- O
/-- a list handed back, new -/
def NRow (D : Addr) (H0 H : Hp) (v : V) (row : List Int) : Prop := ∃ a, v = .ref a ∧ (a ≠ D ∧ H0 a = none) ∧ IL H a row
theorem NRow.up {D : Addr} {H0 H H' : Hp} {v : V} {row : List Int} (s : SameX D H H') (h : NRow D H0 H v row) : NRow D H0 H' v row := let ⟨a, e, n, z⟩ := h; ⟨a, e, n, s _ _ n.1 z⟩
theorem nodup_keys {α : Type} {R : Key × V → Int × α → Prop} (f : ∀ kv p, R kv p → kv.1 = Sum.inl p.1) {kr : List (Key × V)} {l : List (Int × α)} (h : A2 R kr l) (a : (l.map (·.1)).Pairwise (· < ·)) : (kr.map (·.1)).Nodup := by
  rw [keys_of f h]
  unfold List.Nodup
  rw [List.pairwise_map]
  exact a.imp fun h z => by cases z; omega
section
variable {P : Program} {w : World} {K : PySem.W.Frag} {mg : Str → Option Value} {base : Heap}
def Bad (H : Hp) (P C : Addr) (E : XK) : Prop := ∀ H' dd, LkN H H' → GxR.TabG H' P → H' dd = none → E (.ref C) (some dd) (upd H' dd (.xd [("at", .int 0)]))
def sp_need_marks (K : PySem.W.Frag) (P C : Addr) : Sp := fun vs H Q E => ∃ (g p q : Addr) (rs : List Rw) (ps qs : List Int) (many : Nat), vs = [.ref g, .ref p, .ref q] ∧ GR K H g rs ∧ VG many rs ∧ many ≤ 16 ∧ SqL K H p (ps.map V.int) ∧ SqL K H q (qs.map V.int) ∧ GxR.TabG H P ∧
  (¬ MK rs ps qs → Bad H P C E) ∧ (MK rs ps qs → ∀ H', LkN H H' → GxR.TabG H' P → Q .non H')
theorem ok_need_marks (T : Txt K mg) (X : Errs K mg) {P2 : Addr} (TB : GxR.TabB base mg T.is_marks.c P2) : FnOk P w K mg base (L2.CX P w) 4 T.need_marks.a T.need_marks.fd ["grid", "p", "q"] (sp_need_marks K P2 X.NotMarks.C) := by
  refine T.need_marks.F.okX sc_need_marks (fun vs H Q E h => ?_) (fun cdv A outer s H vs Q E hr h => ?_)
  · obtain ⟨g, p, q, rs, ps, qs, many, rfl, _⟩ := h
    rfl
  · obtain ⟨g, p, q, rs, ps, qs, many, rfl, hg, vg, hm, hp, hq, tb, bad, ok⟩ := h
    refine ⟨_, (pss_one (ps_if (pt_not (pt_val (pe_call (ok_is_marks T TB) (hr.mono (by decide)) (by rfl) T.is_marks.g T.is_marks.kp T.is_marks.b .nil pass0 (pa_cons (pv 0) (pa_cons (pv 1) (pa_cons (pv 2) pa_nil))))))
        (pss_one (ps_raise rfl (takes_of rfl rfl rfl rfl) (pmk_oex X.NotMarks.oex X.NotMarks.iC X.e0.tI (ok_init T X) (hr.mono (by decide)) X.e0.b .nil pass0 (by rfl) X.NotMarks.g (pa_cons pe_int pa_nil))))
        pss_nil)), ?_⟩
    refine ⟨.ref g, rfl, .ref p, rfl, .ref q, rfl, g, p, q, rs, ps, qs, many, rfl, hg, vg, hm, hp, hq, tb, fun b H1 hb k1 tb1 => ?_⟩
    cases b with
    | true => exact ⟨_, rfl, iteF (ok (hb.mp rfl) H1 k1 tb1)⟩
    | false => exact ⟨_, rfl, iteT ⟨by show 1 ≤ 1000; decide, LX.raised X.NotMarks (by decide) (fun d hd => bad (fun z => nomatch hb.mpr z) H1 d k1 tb1 hd)⟩⟩
def sp_tight_numbers (K : PySem.W.Frag) (P C : Addr) : Sp := fun vs H Q E => ∃ (g p q : Addr) (rs : List Rw) (ps qs : List Int) (many : Nat), vs = [.ref g, .ref p, .ref q] ∧ GR K H g rs ∧ VG many rs ∧ many ≤ 16 ∧ SqL K H p (ps.map V.int) ∧ SqL K H q (qs.map V.int) ∧ GxR.TabG H P ∧
  (¬ MK rs ps qs → Bad H P C E) ∧ (MK rs ps qs → ∀ H' D ys, LkN H H' → GxR.TabG H' P → H D = none → H' D = some (.lst ys) → A2 (NRow D H H') ys ((exL rs ps qs many).map fun p => p.2) → Q (.ref D) H')
theorem ok_tight_numbers (T : Txt K mg) (X : Errs K mg) (Y : Frm K mg) {P2 : Addr} (TB : GxR.TabB base mg T.is_marks.c P2) : FnOk P w K mg base (L2.CX P w) 5 T.tight_numbers.a T.tight_numbers.fd ["grid", "p", "q"] (sp_tight_numbers K P2 X.NotMarks.C) := by
  refine T.tight_numbers.F.okX sc_tight_numbers (fun vs H Q E h => ?_) (fun cdv A outer s H vs Q E hr h => ?_)
  · obtain ⟨g, p, q, rs, ps, qs, many, rfl, _⟩ := h
    rfl
  · obtain ⟨g, p, q, rs, ps, qs, many, rfl, hg, vg, hm, hp, hq, tb, bad, ok⟩ := h
    refine ⟨_, (pss_cons (ps_expr (pe_call (ok_need_marks T X TB) (hr.mono (by decide)) (by rfl) T.need_marks.g T.need_marks.F.kp T.need_marks.b .nil (passes_call (takes_of rfl rfl rfl rfl) fun _ _ _ _ h => h) (pa_cons (pv 0) (pa_cons (pv 1) (pa_cons (pv 2) pa_nil)))))
      (pss_cons (ps_set (i := 3) sc_tight_numbers.nd rfl (.inr rfl) (pe_call (ok_tight_frame T Y) (hr.mono (by decide)) (by rfl) T.tight_frame.g T.tight_frame.F.kp T.tight_frame.b .nil pass0 (pa_cons (pv 0) (pa_cons (pv 1) (pa_cons (pv 2) pa_nil)))))
      (pss_one (ps_ret (pe_lc (own := [("i", 4)]) rfl sc_tight_numbers.nd (pi_list (pe_fld (pv 3) rfl)) (blkOk_by (N := ["grid", "p", "q", "frame", "i"]) (sc := defScope s_tight_numbers) (by decide +kernel)) (fun _ _ _ _ _ => (pg_name (i := 4) sc_tight_numbers.nd rfl (.inl rfl))) (fun _ _ _ _ _ => pts_nil) (fun _ _ _ _ _ => (pe_callTy (T := "list") (r := rListC K) call_listC (by rfl) T.m_list (by decide +kernel) (pa_cons (pe_dget (by exact hu_of hr) (pe_fldC (K := K) rfl (pv 3) rfl) (pv 4) (fun _ _ => rfl)) pa_nil)))))))), ?_⟩
    refine ⟨.ref g, rfl, .ref p, rfl, .ref q, rfl, g, p, q, rs, ps, qs, many, rfl, hg, vg, hm, hp, hq, tb, bad, fun mk H1 k1 tb1 => ?_⟩
    have lps : ps.length = many := mk.1.trans vg.1
    have lqs : qs.length = many := mk.2.1.trans vg.1
    refine ⟨.ref g, rfl, .ref p, rfl, .ref q, rfl, g, p, q, rs, ps, qs, many, rfl, hg.lk k1.1, vg, hm, k1.1.seqL hp, k1.1.seqL hq, lps, lqs, fun H2 x s2 hF => ?_⟩
    obtain ⟨dx, rd, td, e1, e2, n, kr, kt, hx, hrd, htd, hR, hT, he1, he2⟩ := hF
    have l1 := exL_len (rs := rs) (ps := ps) (qs := qs) many
    refine ⟨.ref x, rfl, x, Y.C, dx, _, _, rfl, hx, Y.cl, Y.n_exact, f_exact .., e1, rfl, ⟨_, he1.sq⟩, fun D nD => ?_⟩
    refine lc_fm (walk_list (xs := ((exL rs ps qs many).map (fun (p : Int × List Int) => p.1)).map V.int)) (exL rs ps qs many) (fun p => some p.2) (NRow D H) (fun _ _ _ _ s h => h.up s) (by rw [List.length_map, List.length_map]) nD (fun H' s => s.seq he1.sq) (small' (by rw [List.length_map, List.length_map]; omega)) (fun i v G Gx ys pr hpr sm hD y Qt Qf qt qf => ?_) (fun G ys s3 hD hN => ?_)
    · obtain ⟨rfl, hxi⟩ := y
      rw [List.getElem?_map, List.getElem?_map, hpr] at hxi
      obtain rfl := Option.some.inj hxi
      obtain ⟨kv, hkv, e0, a, ea, na, hI⟩ := hR.get' hpr
      have hval : valV kr (Sum.inl pr.1) = some (.ref a) := val_at (nodup_keys (fun _ _ z => z.1) hR (exL_asc many)) (i := i) (by rw [hkv, ← e0, ← ea])
      have hI2 := hI.same sm
      refine ⟨rfl, .ref x, rfl, x, Y.C, dx, _, _, rfl, sm _ _ hx, Y.cl, Y.n_rows, f_rows .., _, rfl, rd, .ref a, rfl, by rw [← hval]; exact DGet.k (k := Sum.inl pr.1) (sm _ _ hrd), a, _, rfl, .inl hI2.sq, fun b nb => ?_⟩
      exact qt _ _ _ rfl (same_upd nb) ⟨b, rfl, ⟨(fun z => by rw [z, hD] at nb; cases nb), k1.2 _ (s2.free (sm.free nb))⟩, upd_same⟩
    · rw [fm_some] at hN
      exact ok mk G D ys (k1.trans (lkN (s2.trans s3))) (tabG_same tb1 (s2.trans s3)) (k1.2 _ (s2.free nD)) hD hN
def sp_tight_places (K : PySem.W.Frag) (P C : Addr) : Sp := fun vs H Q E => ∃ (g p q : Addr) (rs : List Rw) (ps qs : List Int) (many : Nat), vs = [.ref g, .ref p, .ref q] ∧ GR K H g rs ∧ VG many rs ∧ many ≤ 16 ∧ SqL K H p (ps.map V.int) ∧ SqL K H q (qs.map V.int) ∧ GxR.TabG H P ∧
  (¬ MK rs ps qs → Bad H P C E) ∧ (MK rs ps qs → ∀ H' D ys, LkN H H' → GxR.TabG H' P → H D = none → H' D = some (.lst ys) → A2 (NRow D H H') ys ((tcL rs ps qs many).map fun p => p.2) → Q (.ref D) H')
theorem ok_tight_places (T : Txt K mg) (X : Errs K mg) (Y : Frm K mg) {P2 : Addr} (TB : GxR.TabB base mg T.is_marks.c P2) : FnOk P w K mg base (L2.CX P w) 5 T.tight_places.a T.tight_places.fd ["grid", "p", "q"] (sp_tight_places K P2 X.NotMarks.C) := by
  refine T.tight_places.F.okX sc_tight_places (fun vs H Q E h => ?_) (fun cdv A outer s H vs Q E hr h => ?_)
  · obtain ⟨g, p, q, rs, ps, qs, many, rfl, _⟩ := h
    rfl
  · obtain ⟨g, p, q, rs, ps, qs, many, rfl, hg, vg, hm, hp, hq, tb, bad, ok⟩ := h
    refine ⟨_, (pss_cons (ps_expr (pe_call (ok_need_marks T X TB) (hr.mono (by decide)) (by rfl) T.need_marks.g T.need_marks.F.kp T.need_marks.b .nil (passes_call (takes_of rfl rfl rfl rfl) fun _ _ _ _ h => h) (pa_cons (pv 0) (pa_cons (pv 1) (pa_cons (pv 2) pa_nil)))))
      (pss_cons (ps_set (i := 3) sc_tight_places.nd rfl (.inr rfl) (pe_call (ok_tight_frame T Y) (hr.mono (by decide)) (by rfl) T.tight_frame.g T.tight_frame.F.kp T.tight_frame.b .nil pass0 (pa_cons (pv 0) (pa_cons (pv 1) (pa_cons (pv 2) pa_nil)))))
      (pss_one (ps_ret (pe_lc (own := [("i", 4)]) rfl sc_tight_places.nd (pi_list (pe_fld (pv 3) rfl)) (blkOk_by (N := ["grid", "p", "q", "frame", "i"]) (sc := defScope s_tight_places) (by decide +kernel)) (fun _ _ _ _ _ => (pg_name (i := 4) sc_tight_places.nd rfl (.inl rfl))) (fun _ _ _ _ _ => pts_nil) (fun _ _ _ _ _ => (pe_callB (id := "sorted") (r := rSortD) (call_sortD rfl) (by rfl) T.m_sorted (by decide +kernel) (pa_cons (pe_dget (by exact hu_of hr) (pe_fldC (K := K) rfl (pv 3) rfl) (pv 4) (fun _ _ => rfl)) pa_nil)))))))), ?_⟩
    refine ⟨.ref g, rfl, .ref p, rfl, .ref q, rfl, g, p, q, rs, ps, qs, many, rfl, hg, vg, hm, hp, hq, tb, bad, fun mk H1 k1 tb1 => ?_⟩
    have lps : ps.length = many := mk.1.trans vg.1
    have lqs : qs.length = many := mk.2.1.trans vg.1
    refine ⟨.ref g, rfl, .ref p, rfl, .ref q, rfl, g, p, q, rs, ps, qs, many, rfl, hg.lk k1.1, vg, hm, k1.1.seqL hp, k1.1.seqL hq, lps, lqs, fun H2 x s2 hF => ?_⟩
    obtain ⟨dx, rd, td, e1, e2, n, kr, kt, hx, hrd, htd, hR, hT, he1, he2⟩ := hF
    have l1 := tcL_len (rs := rs) (ps := ps) (qs := qs) many
    refine ⟨.ref x, rfl, x, Y.C, dx, _, _, rfl, hx, Y.cl, Y.n_sized, f_sized .., e2, rfl, ⟨_, he2.sq⟩, fun D nD => ?_⟩
    refine lc_fm (walk_list (xs := ((tcL rs ps qs many).map (fun (p : Int × List Int) => p.1)).map V.int)) (tcL rs ps qs many) (fun p => some p.2) (NRow D H) (fun _ _ _ _ s h => h.up s) (by rw [List.length_map, List.length_map]) nD (fun H' s => s.seq he2.sq) (small' (by rw [List.length_map, List.length_map]; omega)) (fun i v G Gx ys pr hpr sm hD y Qt Qf qt qf => ?_) (fun G ys s3 hD hN => ?_)
    · obtain ⟨rfl, hxi⟩ := y
      rw [List.getElem?_map, List.getElem?_map, hpr] at hxi
      obtain rfl := Option.some.inj hxi
      obtain ⟨kv, hkv, e0, a, ea, na, hI⟩ := hT.get' hpr
      have hval : valV kt (Sum.inl pr.1) = some (.ref a) := val_at (nodup_keys (fun _ _ z => z.1) hT (tcL_asc many)) (i := i) (by rw [hkv, ← e0, ← ea])
      obtain ⟨i0, hi0, z⟩ := List.mem_filterMap.mp (mem_at hpr)
      have hpr2 : pr.2.Pairwise (· < ·) ∧ pr.2.length ≤ 16 := by
        split at z
        · cases z
        · cases z
          exact ⟨tcol_asc _ _ _ _, Nat.le_trans (tcol_len _ _ _ _) (by omega)⟩
      refine ⟨rfl, .ref x, rfl, x, Y.C, dx, _, _, rfl, sm _ _ hx, Y.cl, Y.n_touched, f_touched .., _, rfl, td, .ref a, rfl, by rw [← hval]; exact DGet.k (k := Sum.inl pr.1) (sm _ _ htd), a, _, pr.2, rfl, .inl (sm _ _ hI), by unfold dcK; rw [List.map_map]; rfl, by omega, hpr2.1, fun b nb => ?_⟩
      exact qt _ _ _ rfl (same_upd nb) ⟨b, rfl, ⟨(fun z => by rw [z, hD] at nb; cases nb), k1.2 _ (s2.free (sm.free nb))⟩, upd_same⟩
    · rw [fm_some] at hN
      exact ok mk G D ys (k1.trans (lkN (s2.trans s3))) (tabG_same tb1 (s2.trans s3)) (k1.2 _ (s2.free nD)) hD hN
end
-- N
def Te (e : List Int) : Prop := e.length ≤ 13 ∧ ∀ n ∈ e, n.natAbs ≤ 10 ^ 42
def GS (n : Nat) (s : Str) : Prop := s.length ≤ n ∧ ∀ c ∈ s.cps.toList, c < 200
/-! ### data and their texts -/
/-- may be shown and compared; a text of at most n signs -/
structure Gd (k n : Nat) (d : PyData) : Prop where
  sh : d.showable = true
  lay : d.canLay0 = true
  dep : d.depth ≤ k
  len : d.shown.length ≤ n
def tot (ts : List Str) : Nat := (ts.map fun t => t.length + 2).sum
theorem textFrom_tot : ∀ (ts : List Str) (k : Nat) (acc : Str), (textFrom k acc ts).length ≤ acc.length + tot ts
  | [], k, acc => Nat.le_add_right _ _
  | t :: r, k, acc => by
    have h := textFrom_tot r (k + 1) (acc ++ (if k > 0 then ", " else "" : String) ++ t)
    rw [Str.length_append, Str.length_append] at h
    have e : ((if k > 0 then ", " else "" : String) : Str).length ≤ 2 := by split <;> decide +kernel
    show (textFrom (k + 1) (acc ++ (if k > 0 then ", " else "" : String) ++ t) r).length ≤ _
    have e2 : tot (t :: r) = t.length + 2 + tot r := by unfold tot; rw [List.map_cons, List.sum_cons]
    omega
theorem join_tot : ∀ ts : List Str, (Str.join ", " ts).length ≤ tot ts
  | [] => Nat.zero_le _
  | [x] => by show x.length ≤ _; unfold tot; simp
  | x :: y :: r => by
    have h := join_tot (y :: r)
    show (x ++ ", " ++ Str.join ", " (y :: r)).length ≤ _
    rw [Str.length_append, Str.length_append]
    have e2 : tot (x :: y :: r) = x.length + 2 + tot (y :: r) := by unfold tot; rw [List.map_cons, List.sum_cons]
    have e3 : ((", " : String) : Str).length = 2 := rfl
    omega
/-- all of them, with all their texts together -/
inductive GdAll (k : Nat) : Nat → List PyData → Prop
  | nil : GdAll k 0 []
  | cons {n m : Nat} {d : PyData} {ds : List PyData} : Gd k n d → GdAll k m ds → GdAll k (n + 2 + m) (d :: ds)
theorem GdAll.facts {k : Nat} : ∀ {n : Nat} {ds : List PyData}, GdAll k n ds → PyData.showableAll ds = true ∧ PyData.canLayAll0 ds = true ∧ PyData.depthAll ds ≤ k ∧ tot (PyData.shownAll ds) ≤ n
  | _, _, .nil => ⟨rfl, rfl, Nat.zero_le _, Nat.le_refl _⟩
  | _, _, .cons (d := d) (ds := ds) h t => by
    obtain ⟨h1, h2, h3, h4⟩ := t.facts
    refine ⟨?_, ?_, ?_, ?_⟩
    · show (PyData.showable d && PyData.showableAll ds) = true
      rw [h.sh, h1]; rfl
    · show (PyData.canLay0 d && PyData.canLayAll0 ds) = true
      rw [h.lay, h2]; rfl
    · show max (PyData.depth d) (PyData.depthAll ds) ≤ k
      exact Nat.max_le.mpr ⟨h.dep, h3⟩
    · show tot (PyData.shown d :: PyData.shownAll ds) ≤ _
      unfold tot at h4 ⊢
      rw [List.map_cons, List.sum_cons]
      have := h.len
      omega
theorem GdAll.map {α : Type} {k n : Nat} {f : α → PyData} : ∀ {xs : List α}, (∀ x ∈ xs, Gd k n (f x)) → GdAll k (xs.length * (n + 2)) (xs.map f)
  | [], _ => by rw [List.length_nil, Nat.zero_mul]; exact .nil
  | x :: r, h => by
    rw [List.length_cons, Nat.succ_mul, Nat.add_comm]
    exact .cons (h x List.mem_cons_self) (GdAll.map fun y hy => h y (List.mem_cons_of_mem _ hy))
theorem Gd.list {k n : Nat} {ds : List PyData} (h : GdAll k n ds) : Gd (k + 1) (n + 2) (.list ds) := by
  obtain ⟨h1, h2, h3, h4⟩ := h.facts
  refine ⟨h1, h2, Nat.succ_le_succ h3, ?_⟩
  show (listText (PyData.shownAll ds)).length ≤ _
  unfold listText
  rw [Str.length_append]
  have := textFrom_tot (PyData.shownAll ds) 0 "["
  have e1 : (("[" : String) : Str).length = 1 := rfl
  have e2 : (("]" : String) : Str).length = 1 := rfl
  omega
theorem Gd.tup {k n : Nat} {ds : List PyData} (h : GdAll k n ds) : Gd (k + 1) (n + 3) (.tuple ds) := by
  obtain ⟨h1, h2, h3, h4⟩ := h.facts
  refine ⟨h1, h2, Nat.succ_le_succ h3, ?_⟩
  show (tupleText (PyData.shownAll ds)).length ≤ _
  unfold tupleText
  rw [Str.length_append, Str.length_append]
  have := join_tot (PyData.shownAll ds)
  have e1 : (("(" : String) : Str).length = 1 := rfl
  have e2 : ((if (PyData.shownAll ds).length == 1 then ",)" else ")" : String) : Str).length ≤ 2 := by split <;> decide +kernel
  omega
theorem Gd.mono {k l n m : Nat} {d : PyData} (h : Gd k n d) (a : k ≤ l) (b : n ≤ m) : Gd l m d := ⟨h.sh, h.lay, Nat.le_trans h.dep a, Nat.le_trans h.len b⟩
theorem log_le {n : Nat} (h : n ≤ 10 ^ 42) : n.log2 < 1920 := by
  rcases Nat.eq_zero_or_pos n with rfl | p
  · decide
  · exact Nat.lt_of_lt_of_le ((Nat.log2_lt (by omega)).mpr (Nat.lt_of_le_of_lt h (by decide : 10 ^ 42 < 2 ^ 150))) (by decide)
theorem Gd.int {i : Int} (h : i.natAbs ≤ 10 ^ 42) : Gd 0 44 (.int i) := by
  refine ⟨decide_eq_true (log_le h), rfl, Nat.le_refl _, ?_⟩
  show (Str.ofString (toString i)).length ≤ 44
  rw [PySem.ofString_length]
  exact int_text_length_le10 (k := 43) (by decide) (Nat.lt_of_le_of_lt h (by decide))
theorem str_ok {n : Nat} {s : Str} (h : GS n s) : (PyData.str s).canLay0 = true := by
  show s.cps.all (· < 0x110000) = true
  rw [← Array.all_toList, List.all_eq_true]
  exact fun c hc => decide_eq_true (Nat.lt_trans (h.2 c hc) (by decide))
theorem Gd.str {n : Nat} {s : Str} (h : GS n s) : Gd 0 (10 * n + 2) (.str s) := by
  refine ⟨rfl, str_ok h, Nat.le_refl _, ?_⟩
  refine Nat.le_trans (StrLaws.reprText_len s fun c hc => Nat.lt_trans (h.2 c hc) (by decide)) ?_
  have := h.1
  omega
/-! ### a grid as a datum -/
def dRow (r : Rw) : PyData := .tuple [.str (kS r.1), .list (r.2.map dI)]
def dGr (rs : List Rw) : PyData := .list (rs.map dRow)
theorem gd_dI {e : List Int} (h : Te e) : Gd 1 600 (dI e) := by
  have : Gd 1 (e.length * 46 + 2) (dI e) := Gd.list (GdAll.map fun n hn => Gd.int (h.2 n hn))
  exact this.mono (Nat.le_refl _) (by have := h.1; omega)
theorem gs_kS (b : Bool) : GS 5 (kS b) := by cases b <;> exact ⟨by decide +kernel, by decide +kernel⟩
theorem gd_dRow {many : Nat} {r : Rw} (h : VR many r.2) (hm : many ≤ 16) : Gd 3 9800 (dRow r) := by
  have l : Gd 2 9634 (.list (r.2.map dI)) := by
    have : Gd 2 (r.2.length * 602 + 2) (.list (r.2.map dI)) := Gd.list (GdAll.map fun e he => gd_dI ⟨(h.2 e he).1, fun n hn => Nat.le_trans ((h.2 e he).2 n hn) (by decide)⟩)
    exact this.mono (Nat.le_refl _) (by have := h.1; omega)
  exact (Gd.tup (.cons ((Gd.str (gs_kS r.1)).mono (Nat.zero_le _) (Nat.le_refl _)) (.cons l .nil))).mono (Nat.le_refl _) (by decide)
theorem gd_dGr {many : Nat} {rs : List Rw} (h : VG many rs) (hm : many ≤ 16) : Gd 4 160000 (dGr rs) := by
  have : Gd 4 (rs.length * 9802 + 2) (dGr rs) := Gd.list (GdAll.map fun r hr => gd_dRow (h.2 r hr) hm)
  exact this.mono (Nat.le_refl _) (by have := h.1; omega)
theorem dp_els {K : PySem.W.Frag} {H : Hp} : ∀ {as : List Addr} {els : List (List Int)}, A2 (IL H) as els → DpAll K H (as.map V.ref) (els.map dI)
  | _, _, .nil => .nil
  | _, _, .cons h t => .cons (dpI h.sq) (dp_els t)
theorem dp_row {K : PySem.W.Frag} {H : Hp} {v : V} {r : Rw} (h : RwV K H v r) : Dp K H v (dRow r) := by
  obtain ⟨t, b, rfl, ht, as, hb, hA⟩ := h
  exact .tup ht (.cons (.str _) (.cons (.lst (.of hb) (dp_els hA)) .nil))
theorem dp_rows {K : PySem.W.Frag} {H : Hp} : ∀ {xs : List V} {rs : List Rw}, A2 (RwV K H) xs rs → DpAll K H xs (rs.map dRow)
  | _, _, .nil => .nil
  | _, _, .cons h t => .cons (dp_row h) (dp_rows t)
theorem dp_gr {K : PySem.W.Frag} {H : Hp} {g : Addr} {rs : List Rw} (h : GR K H g rs) : Dp K H (.ref g) (dGr rs) := let ⟨xs, hx, hA⟩ := h; .lst (.of hx) (dp_rows hA)
theorem layAll_map {α : Type} {f : α → PyData} (h : ∀ x, (f x).canLay0 = true) : ∀ xs : List α, PyData.canLayAll0 (xs.map f) = true
  | [] => rfl
  | x :: r => by
    show (PyData.canLay0 (f x) && PyData.canLayAll0 (r.map f)) = true
    rw [h, layAll_map h r]; rfl
theorem depAll_map {α : Type} {f : α → PyData} {k : Nat} (h : ∀ x, (f x).depth ≤ k) : ∀ xs : List α, PyData.depthAll (xs.map f) ≤ k
  | [] => Nat.zero_le _
  | x :: r => by
    show max (PyData.depth (f x)) (PyData.depthAll (r.map f)) ≤ k
    exact Nat.max_le.mpr ⟨h x, depAll_map h r⟩
def dEls (els : List (List Int)) : PyData := .list (els.map dI)
theorem lay_els (els : List (List Int)) : (dEls els).canLay0 = true := layAll_map lay_dI els
theorem dep_els (els : List (List Int)) : (dEls els).depth ≤ 2 := Nat.succ_le_succ (depAll_map (fun x => Nat.le_of_eq (dep_dI x)) els)
theorem lay_dRow (r : Rw) : (dRow r).canLay0 = true := by
  show (PyData.canLay0 (.str (kS r.1)) && (PyData.canLay0 (dEls r.2) && true)) = true
  rw [lay_els, str_ok (gs_kS r.1)]; rfl
theorem dep_dRow (r : Rw) : (dRow r).depth ≤ 3 := by
  show max (PyData.depth (.str (kS r.1))) (max (PyData.depth (dEls r.2)) 0) + 1 ≤ 3
  have := dep_els r.2
  have e : PyData.depth (.str (kS r.1)) = 0 := rfl
  omega
theorem shaped_dGr (rs : List Rw) : SeqAt.shaped (dGr rs) = true := by
  unfold SeqAt.shaped
  rw [show (dGr rs).canLay0 = true from layAll_map lay_dRow rs, decide_eq_true (Nat.le_trans (Nat.succ_le_succ (depAll_map dep_dRow rs)) (by decide) : (dGr rs).depth ≤ 64)]; rfl
theorem shaped_dEls (els : List (List Int)) : SeqAt.shaped (dEls els) = true := by
  unfold SeqAt.shaped
  rw [lay_els, decide_eq_true (Nat.le_trans (dep_els els) (by decide) : (dEls els).depth ≤ 64)]; rfl
def dKe (rs : List Rw) (ps qs : List Int) : PyData := .tuple [dGr rs, dI ps, dI qs]
theorem gd_ints {e : List Int} (h : ∀ n ∈ e, n.natAbs ≤ 10 ^ 42) (l : e.length ≤ 16) : Gd 4 738 (dI e) := by
  have : Gd 1 (e.length * 46 + 2) (dI e) := Gd.list (GdAll.map fun n hn => Gd.int (h n hn))
  exact this.mono (by decide) (by omega)
theorem gd_dKe {rs : List Rw} {ps qs : List Int} {many : Nat} (vg : VG many rs) (hm : many ≤ 16) (h : ∀ n ∈ ps, n.natAbs ≤ 10 ^ 42) (l : ps.length ≤ 16) (h2 : ∀ n ∈ qs, n.natAbs ≤ 10 ^ 42) (l2 : qs.length ≤ 16) : Gd 5 170000 (dKe rs ps qs) :=
  (Gd.tup (.cons (gd_dGr vg hm) (.cons (gd_ints h l) (.cons (gd_ints h2 l2) .nil)))).mono (Nat.le_refl _) (by decide)
theorem dp_refs {K : PySem.W.Frag} {H : Hp} : ∀ {vs : List V} {els : List (List Int)}, A2 (fun v e => ∃ a, v = .ref a ∧ IL H a e) vs els → DpAll K H vs (els.map dI)
  | _, _, .nil => .nil
  | _, _, .cons h t => let ⟨_, e, z⟩ := h; .cons (e ▸ dpI z.sq) (dp_refs t)
theorem dp_ll {K : PySem.W.Frag} {H : Hp} {D : Addr} {vs : List V} {els : List (List Int)} (hD : H D = some (.lst vs)) (h : A2 (fun v e => ∃ a, v = .ref a ∧ IL H a e) vs els) : Dp K H (.ref D) (dEls els) := .lst (.of hD) (dp_refs h)
-- W
section
variable {P : Program} {w : World} {K : PySem.W.Frag} {mg : Str → Option Value} {base : Heap}
def sp_law_is_integer : Sp := fun vs H Q _ => ∃ i : Int, vs = [.int i] ∧ Q (.bl true) H
theorem ok_law_is_integer (T : Txt K mg) : FnOk P w K mg base CX0 1 T.law_is_integer.a T.law_is_integer.fd ["actual"] sp_law_is_integer := by
  refine T.law_is_integer.F.ok sc_law_is_integer (fun vs H Q E h => ?_) (fun cdv A outer s H vs Q E hr h => ?_)
  · obtain ⟨i, rfl, _⟩ := h
    rfl
  · obtain ⟨i, rfl, q⟩ := h
    refine ⟨_, (pss_one (ps_ret (pe_and (pe_callB call_isi (by rfl) T.m_isinstance (by decide +kernel) (pa_cons (pv 0) (pa_cons (pe_bltn (v := .ty "int") (by rfl) T.m_int (by decide +kernel) rfl) pa_nil))) (pe_one (pe_not (pe_callB call_isi (by rfl) T.m_isinstance (by decide +kernel) (pa_cons (pv 0) (pa_cons (pe_bltn (v := .ty "bool") (by rfl) T.m_bool (by decide +kernel) rfl) pa_nil)))))))), ?_⟩
    refine ⟨_, rfl, _, _, _, _, _, rfl, .ty "int", .base (.int i), kit_ty (by decide +kernel), true, rfl, ?_⟩
    exact iteT ⟨_, rfl, _, _, _, _, _, rfl, .ty "bool", .base (.int i), kit_ty (by decide +kernel), false, rfl, q⟩
def sp_law_is_tight (K : PySem.W.Frag) : Sp := fun vs H Q _ => ∃ (g p q : Addr) (rs : List Rw) (ps qs : List Int) (i j : Nat) (r : Rw) (e : List Int), vs = [.ref g, .ref p, .ref q, .int (i : Nat), .int (j : Nat)] ∧ GR K H g rs ∧ SqL K H p (ps.map V.int) ∧ SqL K H q (qs.map V.int) ∧ rs[i]? = some r ∧ r.2[j]? = some e ∧ i < ps.length ∧ j < qs.length ∧ ∀ H', Same H H' → Q (.bl (tight r.1 (cf ps i) (cf qs j) e)) H'
theorem ok_law_is_tight (T : Txt K mg) : FnOk P w K mg base CX0 2 T.law_is_tight.a T.law_is_tight.fd ["grid", "p", "q", "i", "j"] (sp_law_is_tight K) := by
  refine T.law_is_tight.F.ok sc_law_is_tight (fun vs H Q E h => ?_) (fun cdv A outer s H vs Q E hr h => ?_)
  · obtain ⟨g, p, q, rs, ps, qs, i, j, r, e, rfl, _⟩ := h
    rfl
  · obtain ⟨g, p, q, rs, ps, qs, i, j, r, e, rfl, hg, hp, hq, hr2, he, hi, hj, fin⟩ := h
    obtain ⟨xs, hx, hA⟩ := hg
    obtain ⟨v, hv, t, b, rfl, ht, as, hb, hE⟩ := hA.get' hr2
    obtain ⟨c, hc, hI⟩ := hE.get' he
    have hat : atI (as.map V.ref) ((j : Nat) : Int) = some (.ref c) := atI_nat (by rw [List.getElem?_map, hc]; rfl)
    refine ⟨_, (pss_cons (ps_asg (pe_ix ix_list (pv 0) (pv 3) (fun _ _ => rfl)) (pg_tup rfl (pgs_cons (pg_name (i := 5) sc_law_is_tight.nd rfl (.inl rfl)) (pgs_cons (pg_name (i := 6) sc_law_is_tight.nd rfl (.inl rfl)) pgs_nil))))
      (pss_one (ps_ret (pe_and (pe_cmpR (op_neD hr.units) (pe_ix ix_list (pv 6) (pv 4) (fun _ _ => rfl)) (pe_lst pa_nil) (nomark _)) (pe_one (pe_cmpR op_eq (pe_call (ok_law_power T) (hr.mono (by decide)) (by rfl) T.law_power.g T.law_power.F.kp T.law_power.b .nil pass0 (pa_cons (pv 5) (pa_cons (pe_ix ix_list (pv 6) (pv 4) (fun _ _ => rfl)) pa_nil))) (pe_op op_sub (pe_ix ix_list (pv 2) (pv 4) (fun _ _ => rfl)) (pe_ix ix_list (pv 1) (pv 3) (fun _ _ => rfl))) (nomark _))))))), ?_⟩
    refine ⟨.ref g, rfl, _, rfl, g, _, _, _, rfl, rfl, .of hx, atI_nat hv, t, _, rfl, ht, rfl, _, _, rfl, _, _, rfl, rfl, ?_⟩
    refine ⟨.ref b, rfl, _, rfl, b, _, _, _, rfl, rfl, .of hb, hat, by show 0 ≤ sizeLine; decide, fun l nl => ?_⟩
    have s1 := same_upd nl (o := .lst [])
    refine ⟨dI e, .list [], dpI (hI.same s1).sq, .lst (.of upd_same) .nil, shaped_dI e, rfl, _, rfl, ?_⟩
    rw [eqv_nil]
    by_cases z : e = []
    · rw [decide_eq_true z]
      refine iteF ?_
      have := fin _ s1
      rw [z] at this
      exact this
    · rw [decide_eq_false z]
      refine iteT ?_
      refine ⟨_, rfl, .ref b, rfl, _, rfl, b, _, _, _, rfl, rfl, .of (s1 _ _ hb), hat, c, e, r.1, rfl, (hI.same s1).sq, z, ?_⟩
      refine ⟨.ref q, rfl, _, rfl, q, _, _, _, rfl, rfl, s1.seq hq, at_map' (m := j) rfl hj, .ref p, rfl, _, rfl, p, _, _, _, rfl, rfl, s1.seq hp, at_map' (m := i) rfl hi, ?_⟩
      have := fin _ s1
      unfold tight at this
      rw [pw_yes z] at this
      refine ⟨_, _, rfl, rfl, rfl, ?_⟩
      show Q (.bl (decide (V.int (pwr r.1 e) = V.int (cf qs j - cf ps i)))) _
      rw [show decide (V.int (pwr r.1 e) = V.int (cf qs j - cf ps i)) = decide (pwr r.1 e = cf qs j - cf ps i) from decide_eq_decide.mpr ⟨fun y => V.int.inj y, fun y => congrArg V.int y⟩]
      exact this
def sp_law_refused (K : PySem.W.Frag) (P : Addr) : Sp := fun vs H Q _ => ∃ (g p q : Addr) (way : Int) (rs : List Rw) (ps qs : List Int) (many : Nat), vs = [.int way, .ref g, .ref p, .ref q] ∧ GR K H g rs ∧ VG many rs ∧ many ≤ 16 ∧ SqL K H p (ps.map V.int) ∧ SqL K H q (qs.map V.int) ∧ GxR.TabG H P ∧ ¬ MK rs ps qs ∧
  ∀ H' t, LkN H H' → GxR.TabG H' P → H' t = some (.tup [.bl true, .int 0]) → Q (.ref t) H'
theorem ok_law_refused (T : Txt K mg) (X : Errs K mg) (Y : Frm K mg) {P2 : Addr} (TB : GxR.TabB base mg T.is_marks.c P2) : FnOk P w K mg base CX0 6 T.law_refused.a T.law_refused.fd ["way", "grid", "p", "q"] (sp_law_refused K P2) := by
  refine T.law_refused.F.ok sc_law_refused (fun vs H Q E h => ?_) (fun cdv A outer s H vs Q E hr h => ?_)
  · obtain ⟨g, p, q, way, rs, ps, qs, many, rfl, _⟩ := h
    rfl
  · obtain ⟨g, p, q, way, rs, ps, qs, many, rfl, hg, vg, hm, hp, hq, tb, nm, fin⟩ := h
    refine ⟨_, (pss_cons (ps_try_as (i := 4) rfl rfl sc_law_refused.nd rfl rfl ⟨rfl, by decide, .inl X.e0.gM⟩ takes0
        (fun W pn xe tk _ => (pss_one (ps_if (pt_cmpR op_eq (pv 0) pe_int (nomark _))
          (pss_one (ps_expr (pe_callS (ok_tight_numbers T X Y TB) (hr.mono (by decide)) (by rfl) T.tight_numbers.g T.tight_numbers.F.kp T.tight_numbers.b (fun σ => passAt tk σ) (pa_cons (pv 1) (pa_cons (pv 2) (pa_cons (pv 3) pa_nil))))))
          (pss_one (ps_expr (pe_callS (ok_tight_places T X Y TB) (hr.mono (by decide)) (by rfl) T.tight_places.g T.tight_places.F.kp T.tight_places.b (fun σ => passAt tk σ) (pa_cons (pv 1) (pa_cons (pv 2) (pa_cons (pv 3) pa_nil)))))))))
        (fun a oe cls d pn hz hf => (pss_one (ps_ret (pe_tup (pa_cons (pe_callB (LX.call_isX hz hf) (by rfl) T.m_isinstance (by decide +kernel) (pa_cons (pv 4) (pa_cons (pe_glob (v := .ref X.NotMarks.C) rfl X.NotMarks.g rfl) pa_nil))) (pa_cons (pe_xf X.NotMarks.xf X.NotMarks.noAt hz hf (pv 4)) pa_nil)))))))
      (pss_one (ps_ret pe_non))), ?_⟩
    refine ⟨_, rfl, rfl, _, rfl, ?_⟩
    refine ite2 (fun _ => ?_) (fun _ => ?_)
    all_goals
      refine ⟨.ref g, rfl, .ref p, rfl, .ref q, rfl, g, p, q, rs, ps, qs, many, rfl, hg, vg, hm, hp, hq, tb, fun _ H1 dd k1 tb1 hdd => ?_, fun z => absurd z nm⟩
      refine ⟨true, X.NotMarks.exm, fun _ a0 ha0 => ?_, fun q => nomatch q⟩
      refine ⟨_, rfl, X.NotMarks.C, dd, _, _, true, _, rfl, rfl, X.NotMarks.named.own, rfl, .own _, upd_same, X.NotMarks.kit, ?_⟩
      refine ⟨_, rfl, rfl, rfl, dd, _, _, rfl, upd_same, rfl, by show 2 ≤ sizeLine; decide, fun u hu => ?_⟩
      have s2 := (same_upd hdd).trans (same_upd hu (o := .tup [.bl true, .int 0]))
      exact fin _ u (k1.trans (lkN s2)) (tabG_same tb1 s2) upd_same
end
-- R
/-! ### what a column needs -/
def ndF (rs : List Rw) (ps : List Int) (j : Nat) (a : Nat) : Option Int := (pw (rw0 rs a).1 ((rw0 rs a).2.getD j [])).map fun k => cf ps a + k
def nds (rs : List Rw) (ps : List Int) (many j : Nat) : List Int := (List.range many).filterMap (ndF rs ps j)
theorem rw0_at {rs : List Rw} {i : Nat} {r : Rw} (h : rs[i]? = some r) : rw0 rs i = r := by unfold rw0; rw [List.getD_eq_getElem?_getD, h]; rfl
theorem el_at {r : Rw} {j : Nat} {e : List Int} (h : r.2[j]? = some e) : r.2.getD j [] = e := by rw [List.getD_eq_getElem?_getD, h]; rfl
theorem nd_mem {rs : List Rw} {ps : List Int} {many j i : Nat} {r : Rw} {e : List Int} {k : Int} (hi : i < many) (hr : rs[i]? = some r) (he : r.2[j]? = some e) (hk : pw r.1 e = some k) : cf ps i + k ∈ nds rs ps many j :=
  List.mem_filterMap.mpr ⟨i, List.mem_range.mpr hi, by unfold ndF; rw [rw0_at hr, el_at he, hk]; rfl⟩
theorem nd_of {rs : List Rw} {ps : List Int} {many j : Nat} {n : Int} (l : rs.length = many) (hn : n ∈ nds rs ps many j) : ∃ i r e k, i < many ∧ rs[i]? = some r ∧ r.2[j]? = some e ∧ pw r.1 e = some k ∧ n = cf ps i + k := by
  obtain ⟨i, hi, z⟩ := List.mem_filterMap.mp hn
  have hi := List.mem_range.mp hi
  obtain ⟨r, hr⟩ := some_at (xs := rs) (i := i) (by omega)
  unfold ndF at z
  rw [rw0_at hr] at z
  cases he : r.2[j]? with
  | none =>
    rw [List.getD_eq_getElem?_getD, he] at z
    cases z
  | some e =>
    rw [el_at he] at z
    cases hk : pw r.1 e with
    | none => rw [hk] at z; cases z
    | some k =>
      rw [hk] at z
      exact ⟨i, r, e, k, hi, hr, he, hk, (Option.some.inj z).symm⟩
theorem pw_le {ex : Bool} {e : List Int} {k : Int} (h : pw ex e = some k) (v : VE e) : k.natAbs ≤ 10 ^ 30 := by
  unfold pw at h
  split at h
  · cases h
  · rename_i ne
    have p : 0 < e.length := List.length_pos_iff.mpr ne
    have l := v.1
    obtain rfl := Option.some.inj h
    split
    · exact Nat.le_trans (show _ ≤ 13 by omega) (by decide)
    · exact v.2 _ (mem_at (at_map (by omega)))
theorem nd_le {rs : List Rw} {ps : List Int} {many j : Nat} {n : Int} (vg : VG many rs) (hp : ∀ x ∈ ps, 0 ≤ x ∧ x ≤ 4) (lp : ps.length = many) (hn : n ∈ nds rs ps many j) : n.natAbs ≤ 10 ^ 30 + 4 := by
  obtain ⟨i, r, e, k, hi, hr, he, hk, rfl⟩ := nd_of vg.1 hn
  have a := pw_le hk ((vg.2 r (mem_at hr)).2 e (mem_at he))
  have b := hp _ (mem_at (at_map (show i < ps.length by omega)))
  omega
theorem nds_len (rs : List Rw) (ps : List Int) (many j : Nat) : (nds rs ps many j).length ≤ many := Nat.le_trans (List.length_filterMap_le _ _) (by rw [List.length_range]; exact Nat.le_refl _)
def Big (xs : List Int) : Prop := ∀ n ∈ xs, n.natAbs ≤ 10 ^ 42
theorem mk_of {rs : List Rw} {ps qs : List Int} {many : Nat} (l : rs.length = many) (lp : ps.length = many) (lq : qs.length = many) (h0 : ∀ x ∈ ps, 0 ≤ x ∧ x ≤ 4) (hc : ∀ j, j < many → ∀ n ∈ nds rs ps many j, n ≤ cf qs j) (vr : ∀ r ∈ rs, r.2.length = many) : MK rs ps qs := by
  refine ⟨by omega, by omega, fun x hx => (h0 x hx).1, fun i r hr j e he k hk => ?_⟩
  have hi : i < many := by have := (List.getElem?_eq_some_iff.mp hr).1; omega
  have hj : j < many := by have := (List.getElem?_eq_some_iff.mp he).1; have := vr r (mem_at hr); omega
  have := hc j hj _ (nd_mem hi hr he hk)
  omega
theorem cf_app {qs : List Int} {c : Int} {j : Nat} : cf (qs ++ [c]) j = if j < qs.length then cf qs j else if j = qs.length then c else 0 := by
  unfold cf
  rw [List.getD_eq_getElem?_getD, List.getD_eq_getElem?_getD]
  by_cases z : j < qs.length
  · rw [if_pos z, List.getElem?_append_left z]
  · rw [if_neg z, List.getElem?_append_right (by omega)]
    by_cases y : j = qs.length
    · rw [if_pos y, y, Nat.sub_self]; rfl
    · rw [if_neg y]
      obtain ⟨m, hm⟩ : ∃ m, j - qs.length = m + 1 := ⟨j - qs.length - 1, by omega⟩
      rw [hm]; rfl
section
variable {P : Program} {w : World} {K : PySem.W.Frag} {mg : Str → Option Value} {base : Heap}
def sp_law_marks (K : PySem.W.Frag) : Sp := fun vs H Q _ => ∃ (a g : Addr) (ds : List Int) (rs : List Rw) (many : Nat), vs = [.ref a, .ref g] ∧ IL H a ds ∧ GR K H g rs ∧ VG many rs ∧ many ≤ 16 ∧
  ∀ H' t p q ps qs, Same H H' → H' t = some (.tup [.ref p, .ref q]) → IL H' p ps → IL H' q qs → ps.length = many → qs.length = many → MK rs ps qs → (∀ x ∈ ps, 0 ≤ x ∧ x ≤ 4) → Big qs → Q (.ref t) H'
theorem ok_law_marks (T : Txt K mg) : FnOk P w K mg base CX0 3 T.law_marks.a T.law_marks.fd ["draws", "grid"] (sp_law_marks K) := by
  refine T.law_marks.F.ok sc_law_marks (fun vs H Q E h => ?_) (fun cdv A outer s H vs Q E hr h => ?_)
  · obtain ⟨a, g, ds, rs, many, rfl, _⟩ := h
    rfl
  · obtain ⟨a, g, ds, rs, many, rfl, ha, hg, vg, hm, fin⟩ := h
    obtain ⟨xs, hx, hA⟩ := hg
    have lx := hA.len
    have lr := vg.1
    refine ⟨_, (pss_cons (ps_set (i := 2) sc_law_marks.nd rfl (.inl rfl) (pe_callB call_len_seq (by rfl) T.m_len (by decide +kernel) (pa_cons (pv 1) pa_nil)))
      (pss_cons (ps_set (i := 3) sc_law_marks.nd rfl (.inr rfl) (pe_lc (own := [("i", 7)]) rfl sc_law_marks.nd (pi_range1 (by rfl) T.m_range (pa_cons (pv 2) pa_nil)) (blkOk_by (N := ["draws", "grid", "many", "p", "q", "j", "needs", "i"]) (sc := defScope s_law_marks) (by decide +kernel)) (fun _ _ _ _ _ => (pg_name (i := 7) sc_law_marks.nd rfl (.inl rfl))) (fun _ _ _ _ _ => pts_nil) (fun _ _ _ _ _ => (pe_call (ok_law_mix T) (hr.mono (by decide)) (by rfl) T.law_mix.g T.law_mix.F.kp T.law_mix.b .nil pass0 (pa_cons (pv 0) (pa_cons (pe_op op_add pe_int (pv 7)) (pa_cons (pe_ix (r := rIxL K) ix_list (pe_lst (pa_cons pe_int (pa_cons pe_int pa_nil))) (pe_call (ok_law_mix T) (hr.mono (by decide)) (by rfl) T.law_mix.g T.law_mix.F.kp T.law_mix.b .nil pass0 (pa_cons (pv 0) (pa_cons pe_int (pa_cons pe_int pa_nil)))) (fun _ _ => rfl)) pa_nil)))))))
      (pss_cons (ps_set (i := 4) sc_law_marks.nd rfl (.inl rfl) (pe_lst pa_nil))
      (pss_cons (ps_for PassesOwn.never rfl (pi_range1 (by rfl) T.m_range (pa_cons (pv 2) pa_nil)) (pg_name (i := 5) sc_law_marks.nd rfl (.inr rfl))
        (pss_cons (ps_setLc (i := 6) (own := [("i", 7)]) rfl sc_law_marks.nd rfl rfl (sw_true rfl rfl rfl (by decide +kernel)) (pi_range1 (by rfl) T.m_range (pa_cons (pv 2) pa_nil)) (blkOk_by (N := ["draws", "grid", "many", "p", "q", "j", "needs", "i"]) (sc := defScope s_law_marks) (by decide +kernel)) (fun _ _ _ _ _ => (pg_name (i := 7) sc_law_marks.nd rfl (.inl rfl))) (fun _ _ _ _ _ => (pts_one (pt_cmpR (r := rNeD K) (op_neD hr.units) (pe_ix (r := rIxL K) ix_list (pe_ix (r := rIxT K) ix_tup (pe_ix (r := rIxL K) ix_list (pv 1) (pv 7) (fun _ _ => rfl)) pe_int (fun _ _ => rfl)) (pv 5) (fun _ _ => rfl)) (pe_lst pa_nil) (nomark _)))) (fun _ _ _ _ _ => (pe_op op_add (pe_ix (r := rIxL K) ix_list (pv 3) (pv 7) (fun _ _ => rfl)) (pe_call (ok_law_power T) (hr.mono (by decide)) (by rfl) T.law_power.g T.law_power.F.kp T.law_power.b .nil pass0 (pa_cons (pe_ix (r := rIxT K) ix_tup (pe_ix (r := rIxL K) ix_list (pv 1) (pv 7) (fun _ _ => rfl)) pe_int (fun _ _ => rfl)) (pa_cons (pe_ix (r := rIxL K) ix_list (pe_ix (r := rIxT K) ix_tup (pe_ix (r := rIxL K) ix_list (pv 1) (pv 7) (fun _ _ => rfl)) pe_int (fun _ _ => rfl)) (pv 5) (fun _ _ => rfl)) pa_nil))))))
        (pss_one (ps_expr (pe_bm PySem.F.plainAttrs_list PySem.F.slot_list_append PySem.F.type_list_append mt_append (pv 4) (pa_cons (pe_op op_add (pe_callB (cr_max rfl) (by rfl) T.m_max (by decide +kernel) (pa_cons (pe_op op_cat (pv 6) (pe_lst (pa_cons pe_int pa_nil))) pa_nil)) (pe_op op_fdiv (pe_call (ok_law_mix T) (hr.mono (by decide)) (by rfl) T.law_mix.g T.law_mix.F.kp T.law_mix.b .nil pass0 (pa_cons (pv 0) (pa_cons (pe_op op_add pe_int (pv 5)) (pa_cons pe_int pa_nil)))) pe_int)) pa_nil))))))
      (pss_one (ps_ret (pe_tup (pa_cons (pv 3) (pa_cons (pv 4) pa_nil))))))))), ?_⟩
    refine ⟨.ref g, rfl, g, _, rfl, .inl (.of hx), ?_⟩
    rw [lx, lr]
    refine ⟨_, rfl, (many : Nat), rfl, by omega, by omega, fun D nD => ?_⟩
    rw [Int.toNat_natCast]
    refine lc_inv (walk_range (lo := 0) (n := many)) (fun i G ys => ∃ ns : List Int, ys = ns.map V.int ∧ ns.length = i ∧ ∀ n ∈ ns, 0 ≤ n ∧ n ≤ 4) nD (fun _ _ => trivial) (small' (by omega)) ⟨[], rfl, rfl, fun _ h => nomatch h⟩ (fun i x G Gx ys hi sm hD hR y Qt Qf qt qf => ?_) (fun G1 ys s1 hD hR => ?_)
    · obtain ⟨rfl, rfl⟩ := y
      obtain ⟨ns, rfl, ln, hn⟩ := hR
      refine ⟨rfl, .ref a, rfl, _, rfl, _, _, rfl, rfl, by show 2 ≤ sizeLine; decide, fun l0 n0 => ?_⟩
      have s2 := same_upd n0 (o := .lst [.int 2, .int 5])
      have ha2 := (ha.same sm).same s2
      refine ⟨.ref a, rfl, a, ds, _, _, rfl, ha2, by decide, by decide, fun r1 p1 u1 => ?_⟩
      have hlt : r1.toNat < [(2 : Int), 5].length := by show _ < 2; omega
      refine ⟨l0, _, _, _, rfl, rfl, .of upd_same, at_map' (ns := [2, 5]) (m := r1.toNat) (by omega) hlt, ?_⟩
      obtain ⟨m0, m1⟩ := (by decide : ∀ x ∈ [(2 : Int), 5], 0 < x ∧ x ≤ 5) _ (mem_at (at_map hlt))
      refine ⟨a, ds, _, _, rfl, ha2, by omega, m0, fun r2 p2 u2 => qt _ _ s2 ⟨ns ++ [r2], app_ints, by rw [List.length_append, ln]; rfl, fun n h => ?_⟩⟩
      rcases List.mem_append.mp h with h | h
      · exact hn n h
      · obtain rfl := List.mem_singleton.mp h
        exact ⟨p2, by omega⟩
    obtain ⟨ps, rfl, lp, hps⟩ := hR
    have hD : IL G1 D ps := hD
    refine ⟨by show 0 ≤ sizeLine; decide, fun F nF => ?_⟩
    have s2 := same_upd nF (o := .lst [])
    refine ⟨_, rfl, (many : Nat), rfl, by omega, by omega, ?_⟩
    rw [Int.toNat_natCast]
    refine for_range (n := many) (lo := 0) (fun j σ G => SameX F G1 G ∧ ∃ (v5 v6 v7 : Option V) (qs : List Int), σ = [some (.ref a), some (.ref g), some (.int (many : Nat)), some (.ref D), some (.ref F), v5, v6, v7] ∧ IL G F qs ∧ qs.length = j ∧ Big qs ∧ ∀ j', j' < j → ∀ n ∈ nds rs ps many j', n ≤ cf qs j') ⟨sx s2, _, _, _, [], rfl, upd_same, rfl, (show Big [] from fun _ h => by cases h), fun _ h => absurd h (Nat.not_lt_zero _)⟩ (fun j σ G hj hP => ?_) (fun σ G hP => ?_)
    · obtain ⟨sF, v5, v6, v7, qs, rfl, hF, lq, hB, hC⟩ := hP
      have sG := same_x (Same.refl G1) sF nF
      have sHG := s1.trans sG
      have ezj : (0 : Int) + (j : Int) = (j : Int) := Int.zero_add _
      refine ⟨_, rfl, (many : Nat), rfl, by omega, by omega, fun N nN => ?_⟩
      rw [Int.toNat_natCast]
      refine lc_fm (walk_range (lo := 0) (n := many)) (List.range many) (ndF rs ps j) (fun _ v n => v = V.int n) (fun _ _ _ _ _ z => z) List.length_range nN (fun _ _ => trivial) (small' (by omega)) (fun i x G2 Gx ys o2 ho sm2 hD2 y Qt Qf qt qf => ?_) (fun G2 ys sm2 hN hR => ?_)
      · obtain ⟨rfl, rfl⟩ := y
        have hlt : i < many := by have := (List.getElem?_eq_some_iff.mp ho).1; rw [List.length_range] at this; exact this
        obtain rfl : o2 = i := by rw [List.getElem?_range hlt] at ho; exact (Option.some.inj ho).symm
        obtain ⟨r, hr2⟩ := some_at (xs := rs) (i := o2) (by omega)
        obtain ⟨v, hv, t, b, rfl, ht0, as, hb0, hE0⟩ := hA.get' hr2
        have lrow := (vg.2 r (mem_at hr2)).1
        obtain ⟨e, he⟩ := some_at (xs := r.2) (i := j) (by omega)
        obtain ⟨c, hc, hI0⟩ := hE0.get' he
        have s02 := sHG.trans sm2
        have hx2 := s02 _ _ hx
        have ht2 := Same.seqT s02 ht0
        have hb2 := s02 _ _ hb0
        have hI2 := hI0.same s02
        have hat : atI xs (0 + (o2 : Int)) = some (.ref t) := by rw [Int.zero_add]; exact atI_nat hv
        have hatj : atI (as.map V.ref) (0 + (j : Int)) = some (.ref c) := by rw [Int.zero_add]; exact atI_nat (by rw [List.getElem?_map, hc]; rfl)
        have ef : ndF rs ps j o2 = (pw r.1 e).map fun k => cf ps o2 + k := by unfold ndF; rw [rw0_at hr2, el_at he]
        refine ⟨rfl, .ref g, rfl, _, rfl, g, _, _, _, rfl, rfl, .of hx2, hat, t, _, _, _, rfl, rfl, ht2, rfl, _, rfl, b, _, _, _, rfl, rfl, .of hb2, hatj, by show 0 ≤ sizeLine; decide, fun l nl => ?_⟩
        have s3 := same_upd nl (o := .lst [])
        refine ⟨dI e, .list [], dpI (hI2.same s3).sq, .lst (.of upd_same) .nil, shaped_dI e, rfl, _, rfl, ?_⟩
        rw [eqv_nil]
        by_cases z : e = []
        · rw [decide_eq_true z]
          exact iteF (qf (by rw [ef, z]; rfl) _ s3)
        · rw [decide_eq_false z]
          refine iteT ?_
          refine ⟨.ref D, rfl, _, rfl, D, _, _, _, rfl, rfl, (((hD.same sG).same sm2).same s3).sq, at_map' (m := o2) (Int.zero_add _) (by omega), ?_⟩
          refine ⟨.ref g, rfl, _, rfl, g, _, _, _, rfl, rfl, .of (s3 _ _ hx2), hat, t, _, _, _, rfl, rfl, Same.seqT s3 ht2, rfl, .ref g, rfl, _, rfl, g, _, _, _, rfl, rfl, .of (s3 _ _ hx2), hat, t, _, _, _, rfl, rfl, Same.seqT s3 ht2, rfl, _, rfl, b, _, _, _, rfl, rfl, .of (s3 _ _ hb2), hatj, c, e, r.1, rfl, (hI2.same s3).sq, z, ?_⟩
          exact ⟨_, _, rfl, rfl, qt _ _ _ (by rw [ef, pw_yes z]; rfl) s3 rfl⟩
      · have eN := a2_eq hR
        rw [eN] at hN
        have hN : IL G2 N (nds rs ps many j) := hN
        have lN := nds_len rs ps many j
        have hF2 := hF.same sm2
        have sH2 := sHG.trans sm2
        refine ⟨.ref F, rfl, .inl ⟨rfl, _, hF2.sq⟩, .ref N, rfl, by show 1 ≤ sizeLine; decide, fun l nl => ?_⟩
        have s3 := same_upd nl (o := .lst [.int 0])
        refine ⟨N, l, _, _, rfl, rfl, s3 _ _ hN, upd_same, by rw [List.length_map]; exact small (by show _ + 1 ≤ _; omega), fun c nc => ?_⟩
        have s4 := same_upd nc (o := .lst ((nds rs ps many j).map V.int ++ [.int 0]))
        have s34 := s3.trans s4
        refine ⟨c, nds rs ps many j ++ [0], rfl, .of (by rw [upd_same, app_ints]), by rw [List.length_append]; exact Nat.succ_pos _, fun m hm1 hm2 => ?_⟩
        refine ⟨.ref a, rfl, _, rfl, _, _, rfl, rfl, a, ds, _, _, rfl, (ha.same sH2).same s34, by omega, by decide, fun r p1 p2 => ?_⟩
        refine ⟨_, _, rfl, rfl, ⟨by decide, by decide⟩, _, _, rfl, rfl, F, _, _, rfl, rfl, hF2.same s34, small' (by rw [List.length_map]; omega), ?_⟩
        have hmb : m.natAbs ≤ 10 ^ 30 + 4 := by
          rcases List.mem_append.mp hm1 with h | h
          · exact nd_le vg hps lp h
          · obtain rfl := List.mem_singleton.mp h
            exact Nat.zero_le _
        refine ⟨(sF.trans (sx (sm2.trans s34))).trans SameX.put, _, _, _, qs ++ [m + r / 4], rfl, ?_, by rw [List.length_append, lq]; rfl, fun n h => ?_, fun j' hj' n hn => ?_⟩
        · show upd _ F _ F = _
          rw [upd_same, app_ints]
        · rcases List.mem_append.mp h with h | h
          · exact hB n h
          · obtain rfl := List.mem_singleton.mp h
            exact Nat.le_trans (show _ ≤ 10 ^ 30 + 6 by omega) (by decide)
        · rw [cf_app]
          by_cases z : j' < qs.length
          · rw [if_pos z]
            exact hC j' (by omega) n hn
          · rw [if_neg z, if_pos (by omega)]
            obtain rfl : j' = j := by omega
            have := hm2 n (List.mem_append_left _ hn)
            omega
    · obtain ⟨sF, v5, v6, v7, qs, rfl, hF, lq, hB, hC⟩ := hP
      have sG := same_x (Same.refl G1) sF nF
      refine ⟨.ref D, rfl, .ref F, rfl, by show 2 ≤ sizeLine; decide, fun u nu => ?_⟩
      have s5 := same_upd nu (o := .tup [.ref D, .ref F])
      exact fin _ u D F ps qs ((s1.trans sG).trans s5) upd_same ((hD.same sG).same s5) (hF.same s5) lp lq (mk_of lr lp lq hps hC fun r hr2 => (vg.2 r hr2).1) hps hB
end
-- S
theorem cutI_head {ns : List Int} {m : Nat} (h : m ≤ ns.length) : cutV (ns.map V.int) none (some (m : Int)) = (ns.take m).map V.int := cut_to h
theorem cutI_tail {ns : List Int} {m : Nat} (h : m ≤ ns.length) : cutV (ns.map V.int) (some (m : Int)) none = (ns.drop m).map V.int := by
  unfold cutV
  rw [HT.sIx_none, HT.sIx_nat, List.length_map, Nat.min_eq_left h, List.take_of_length_le (by rw [List.length_drop, List.length_map]; exact Nat.le_refl _), List.map_drop]
theorem cutI_last {ns : List Int} : cutV (ns.map V.int) none (some (-1)) = (ns.take (ns.length - 1)).map V.int := by
  unfold cutV
  have e : HT.sIx (ns.map V.int).length (ns.map V.int).length (some (-1)) = ns.length - 1 := by
    show (if (-1 : Int) < 0 then ((-1 : Int) + ((ns.map V.int).length : Int)).toNat else min (-1 : Int).toNat (ns.map V.int).length) = _
    rw [if_pos (by decide), List.length_map]; omega
  rw [e, HT.sIx_none, List.drop_zero, Nat.sub_zero, List.map_take]
theorem ne_new {H : Hp} {b B : Addr} {o : HO} (h : H b = some o) (n : H B = none) : b ≠ B := fun z => by rw [z, n] at h; cases h
/-- a pair of lists that are no marks -/
def BT (B : Addr) (rs : List Rw) (H : Hp) (v : V) : Prop := ∃ (t c d : Addr) (xs ys : List Int), v = .ref t ∧ t ≠ B ∧ c ≠ B ∧ d ≠ B ∧ H t = some (.tup [.ref c, .ref d]) ∧ IL H c xs ∧ IL H d ys ∧ ¬ MK rs xs ys
theorem BT.up {B : Addr} {rs : List Rw} {H H' : Hp} {v : V} (s : SameX B H H') (h : BT B rs H v) : BT B rs H' v := let ⟨t, c, d, xs, ys, e, nt, nc, nd, ht, hc, hd, nm⟩ := h; ⟨t, c, d, xs, ys, e, nt, nc, nd, s _ _ nt ht, s _ _ nc hc, s _ _ nd hd, nm⟩
theorem bad_put {rs : List Rw} {ps qs : List Int} {many j : Nat} {m r : Int} (l : rs.length = many) (lq : qs.length = many) (hj : j < many) (hm : m ∈ nds rs ps many j) (hr : 0 ≤ r) : ¬ MK rs ps ((qs.take j ++ [m - 1 - r]) ++ qs.drop (j + 1)) := by
  intro z
  obtain ⟨i, rw', e, k, hi, hr2, he, hk, rfl⟩ := nd_of l hm
  have h1 := z.2.2.2 i rw' hr2 j e he k hk
  have e1 : cf ((qs.take j ++ [cf ps i + k - 1 - r]) ++ qs.drop (j + 1)) j = cf ps i + k - 1 - r := by
    unfold cf
    have lt : (qs.take j).length = j := by rw [List.length_take]; omega
    rw [List.getD_eq_getElem?_getD, List.append_assoc, List.getElem?_append_right (by omega), lt, Nat.sub_self]; rfl
  rw [e1] at h1
  omega
section
variable {P : Program} {w : World} {K : PySem.W.Frag} {mg : Str → Option Value} {base : Heap}
def sp_law_bad (K : PySem.W.Frag) (P : Addr) : Sp := fun vs H Q _ => ∃ (a g p q : Addr) (ds : List Int) (rs : List Rw) (ps qs : List Int) (many : Nat), vs = [.ref a, .ref g, .ref p, .ref q] ∧ IL H a ds ∧ GR K H g rs ∧ VG many rs ∧ many ≤ 16 ∧ IL H p ps ∧ IL H q qs ∧ ps.length = many ∧ qs.length = many ∧ GxR.TabG H P ∧
  ∀ H', LkN H H' → GxR.TabG H' P → Q (.bl true) H'
theorem ok_law_bad (T : Txt K mg) (X : Errs K mg) (Y : Frm K mg) {P2 : Addr} (TB : GxR.TabB base mg T.is_marks.c P2) : FnOk P w K mg base CX0 7 T.law_bad.a T.law_bad.fd ["draws", "grid", "p", "q"] (sp_law_bad K P2) := by
  refine T.law_bad.F.ok sc_law_bad (fun vs H Q E h => ?_) (fun cdv A outer s H vs Q E hr h => ?_)
  · obtain ⟨a, g, p, q, ds, rs, ps, qs, many, rfl, _⟩ := h
    rfl
  · obtain ⟨a, g, p, q, ds, rs, ps, qs, many, rfl, ha, hg, vg, hm, hp, hq, lp, lq, tb, fin⟩ := h
    obtain ⟨xs, hx, hA⟩ := hg
    have lx := hA.len
    have lr := vg.1
    refine ⟨_, (pss_cons (ps_set (i := 4) sc_law_bad.nd rfl (.inl rfl) (pe_lst (pa_cons (pe_tup (pa_cons (pe_op op_cat (pv 2) (pe_lst (pa_cons pe_int pa_nil))) (pa_cons (pv 3) pa_nil))) (pa_cons (pe_tup (pa_cons (pv 2) (pa_cons (pe_op op_cat (pv 3) (pe_lst (pa_cons pe_int pa_nil))) pa_nil))) (pa_cons (pe_tup (pa_cons (pe_op op_cat (pe_slice sl_list (pv 2) po_none (po_some (pe_un un_neg pe_int))) (pe_lst (pa_cons (pe_un un_neg pe_int) pa_nil))) (pa_cons (pv 3) pa_nil))) pa_nil)))))
      (pss_cons (ps_for PassesOwn.never rfl (pi_range1 (by rfl) T.m_range (pa_cons (pe_callB call_len_seq (by rfl) T.m_len (by decide +kernel) (pa_cons (pv 1) pa_nil)) pa_nil)) (pg_name (i := 5) sc_law_bad.nd rfl (.inr rfl))
        (pss_cons (ps_setLc (i := 6) (own := [("i", 10)]) rfl sc_law_bad.nd rfl rfl (sw_true rfl rfl rfl (by decide +kernel)) (pi_range1 (by rfl) T.m_range (pa_cons (pe_callB call_len_seq (by rfl) T.m_len (by decide +kernel) (pa_cons (pv 1) pa_nil)) pa_nil)) (blkOk_by (N := ["draws", "grid", "p", "q", "bad", "j", "needs", "one", "two", "way", "i"]) (sc := defScope s_law_bad) (by decide +kernel)) (fun _ _ _ _ _ => (pg_name (i := 10) sc_law_bad.nd rfl (.inl rfl))) (fun _ _ _ _ _ => (pts_one (pt_cmpR (r := rNeD K) (op_neD hr.units) (pe_ix (r := rIxL K) ix_list (pe_ix (r := rIxT K) ix_tup (pe_ix (r := rIxL K) ix_list (pv 1) (pv 10) (fun _ _ => rfl)) pe_int (fun _ _ => rfl)) (pv 5) (fun _ _ => rfl)) (pe_lst pa_nil) (nomark _)))) (fun _ _ _ _ _ => (pe_op op_add (pe_ix (r := rIxL K) ix_list (pv 2) (pv 10) (fun _ _ => rfl)) (pe_call (ok_law_power T) (hr.mono (by decide)) (by rfl) T.law_power.g T.law_power.F.kp T.law_power.b .nil pass0 (pa_cons (pe_ix (r := rIxT K) ix_tup (pe_ix (r := rIxL K) ix_list (pv 1) (pv 10) (fun _ _ => rfl)) pe_int (fun _ _ => rfl)) (pa_cons (pe_ix (r := rIxL K) ix_list (pe_ix (r := rIxT K) ix_tup (pe_ix (r := rIxL K) ix_list (pv 1) (pv 10) (fun _ _ => rfl)) pe_int (fun _ _ => rfl)) (pv 5) (fun _ _ => rfl)) pa_nil))))))
        (pss_one (ps_if (pt_cmpR (op_neD hr.units) (pv 6) (pe_lst pa_nil) (nomark _))
          (pss_one (ps_expr (pe_bm PySem.F.plainAttrs_list PySem.F.slot_list_append PySem.F.type_list_append mt_append (pv 4) (pa_cons (pe_tup (pa_cons (pv 2) (pa_cons (pe_op op_cat (pe_op op_cat (pe_slice sl_list (pv 3) po_none (po_some (pv 5))) (pe_lst (pa_cons (pe_op op_sub (pe_op op_sub (pe_callB (cr_max rfl) (by rfl) T.m_max (by decide +kernel) (pa_cons (pv 6) pa_nil)) pe_int) (pe_call (ok_law_mix T) (hr.mono (by decide)) (by rfl) T.law_mix.g T.law_mix.F.kp T.law_mix.b .nil pass0 (pa_cons (pv 0) (pa_cons (pe_op op_add pe_int (pv 5)) (pa_cons pe_int pa_nil))))) pa_nil))) (pe_slice sl_list (pv 3) (po_some (pe_op op_add (pv 5) pe_int)) po_none)) pa_nil))) pa_nil))))
          pss_nil))))
      (pss_cons (ps_for PassesOwn.never rfl (pi_list (pv 4)) (pg_tup rfl (pgs_cons (pg_name (i := 7) sc_law_bad.nd rfl (.inl rfl)) (pgs_cons (pg_name (i := 8) sc_law_bad.nd rfl (.inl rfl)) pgs_nil)))
        (pss_one (ps_for PassesOwn.never rfl (pi_range1 (by rfl) T.m_range (pa_cons pe_int pa_nil)) (pg_name (i := 9) sc_law_bad.nd rfl (.inl rfl))
          (pss_one (ps_if (pt_cmpR (op_neD hr.units) (pe_call (ok_law_refused T X Y TB) (hr.mono (by decide)) (by rfl) T.law_refused.g T.law_refused.F.kp T.law_refused.b .nil pass0 (pa_cons (pv 9) (pa_cons (pv 1) (pa_cons (pe_callTy call_list_of (by rfl) T.m_list (by decide +kernel) (pa_cons (pv 7) pa_nil)) (pa_cons (pe_callTy call_list_of (by rfl) T.m_list (by decide +kernel) (pa_cons (pv 8) pa_nil)) pa_nil))))) (pe_tup (pa_cons pe_bl (pa_cons pe_int pa_nil))) (nomark _))
            (pss_one (ps_ret pe_bl))
            pss_nil)))))
      (pss_one (ps_ret pe_bl))))), ?_⟩
    -- three of them
    refine ⟨.ref p, rfl, by show 1 ≤ sizeLine; decide, fun l1 n1 => ?_⟩
    have q1 := same_upd n1 (o := .lst [.int 0])
    refine ⟨p, l1, _, _, rfl, rfl, q1 _ _ hp, upd_same, by rw [List.length_map]; exact small (by show _ + 1 ≤ _; omega), fun c1 nc1 => ?_⟩
    have q2a := same_upd nc1 (o := .lst (ps.map V.int ++ [.int 0]))
    have q2 := q1.trans q2a
    refine ⟨.ref q, rfl, by show 2 ≤ sizeLine; decide, fun t1 nt1 => ?_⟩
    have q3a := same_upd nt1 (o := .tup [.ref c1, .ref q])
    have q3 := q2.trans q3a
    refine ⟨.ref p, rfl, .ref q, rfl, by show 1 ≤ sizeLine; decide, fun l2 n2 => ?_⟩
    have q4a := same_upd n2 (o := .lst [.int 5])
    have q4 := q3.trans q4a
    refine ⟨q, l2, _, _, rfl, rfl, q4 _ _ hq, upd_same, by rw [List.length_map]; exact small (by show _ + 1 ≤ _; omega), fun c2 nc2 => ?_⟩
    have q5a := same_upd nc2 (o := .lst (qs.map V.int ++ [.int 5]))
    have q5 := q4.trans q5a
    refine ⟨by show 2 ≤ sizeLine; decide, fun t2 nt2 => ?_⟩
    have q6a := same_upd nt2 (o := .tup [.ref p, .ref c2])
    have q6 := q5.trans q6a
    refine ⟨.ref p, rfl, _, rfl, _, rfl, p, _, rfl, (hp.same q6).sq, fun w1 nw1 => ?_⟩
    rw [cutI_last]
    have q7a := same_upd nw1 (o := .lst ((ps.take (ps.length - 1)).map V.int))
    have q7 := q6.trans q7a
    refine ⟨_, rfl, by show 1 ≤ sizeLine; decide, fun l3 n3 => ?_⟩
    have q8a := same_upd n3 (o := .lst [.int (-1)])
    have q8 := q7.trans q8a
    refine ⟨w1, l3, _, _, rfl, rfl, q8a _ _ upd_same, upd_same, by rw [List.length_map, List.length_take]; exact small (by show _ + 1 ≤ _; omega), fun c3 nc3 => ?_⟩
    have q9a := same_upd nc3 (o := .lst ((ps.take (ps.length - 1)).map V.int ++ [.int (-1)]))
    have q9 := q8.trans q9a
    refine ⟨.ref q, rfl, by show 2 ≤ sizeLine; decide, fun t3 nt3 => ?_⟩
    have q10a := same_upd nt3 (o := .tup [.ref c3, .ref q])
    have q10 := q9.trans q10a
    refine ⟨by show 3 ≤ sizeLine; decide, fun B nB => ?_⟩
    have q11a := same_upd nB (o := .lst [.ref t1, .ref t2, .ref t3])
    have q11 := q10.trans q11a
    have z1 : IL (upd (upd (upd (upd (upd (upd (upd (upd (upd (upd H l1 (.lst [.int 0])) c1 (.lst (ps.map V.int ++ [.int 0]))) t1 (.tup [.ref c1, .ref q])) l2 (.lst [.int 5])) c2 (.lst (qs.map V.int ++ [.int 5]))) t2 (.tup [.ref p, .ref c2])) w1 (.lst ((ps.take (ps.length - 1)).map V.int))) l3 (.lst [.int (-1)])) c3 (.lst ((ps.take (ps.length - 1)).map V.int ++ [.int (-1)]))) t3 (.tup [.ref c3, .ref q])) c1 (ps ++ [0]) := by
      unfold IL
      rw [← app_ints]
      exact q10a _ _ (q9a _ _ (q8a _ _ (q7a _ _ (q6a _ _ (q5a _ _ (q4a _ _ (q3a _ _ upd_same)))))))
    have z2 := q10a _ _ (q9a _ _ (q8a _ _ (q7a _ _ (q6a _ _ (q5a _ _ (q4a _ _ (upd_same (H := upd (upd H l1 (.lst [.int 0])) c1 (.lst (ps.map V.int ++ [.int 0]))) (a := t1) (o := .tup [.ref c1, .ref q]))))))))
    have z3 : IL (upd (upd (upd (upd (upd (upd (upd (upd (upd (upd H l1 (.lst [.int 0])) c1 (.lst (ps.map V.int ++ [.int 0]))) t1 (.tup [.ref c1, .ref q])) l2 (.lst [.int 5])) c2 (.lst (qs.map V.int ++ [.int 5]))) t2 (.tup [.ref p, .ref c2])) w1 (.lst ((ps.take (ps.length - 1)).map V.int))) l3 (.lst [.int (-1)])) c3 (.lst ((ps.take (ps.length - 1)).map V.int ++ [.int (-1)]))) t3 (.tup [.ref c3, .ref q])) c2 (qs ++ [5]) := by
      unfold IL
      rw [← app_ints]
      exact q10a _ _ (q9a _ _ (q8a _ _ (q7a _ _ (q6a _ _ upd_same))))
    have z4 := q10a _ _ (q9a _ _ (q8a _ _ (q7a _ _ (upd_same (H := upd (upd (upd (upd (upd H l1 (.lst [.int 0])) c1 (.lst (ps.map V.int ++ [.int 0]))) t1 (.tup [.ref c1, .ref q])) l2 (.lst [.int 5])) c2 (.lst (qs.map V.int ++ [.int 5]))) (a := t2) (o := .tup [.ref p, .ref c2])))))
    have z5 : IL (upd (upd (upd (upd (upd (upd (upd (upd (upd (upd H l1 (.lst [.int 0])) c1 (.lst (ps.map V.int ++ [.int 0]))) t1 (.tup [.ref c1, .ref q])) l2 (.lst [.int 5])) c2 (.lst (qs.map V.int ++ [.int 5]))) t2 (.tup [.ref p, .ref c2])) w1 (.lst ((ps.take (ps.length - 1)).map V.int))) l3 (.lst [.int (-1)])) c3 (.lst ((ps.take (ps.length - 1)).map V.int ++ [.int (-1)]))) t3 (.tup [.ref c3, .ref q])) c3 (ps.take (ps.length - 1) ++ [-1]) := by
      unfold IL
      rw [← app_ints]
      exact q10a _ _ upd_same
    have z6 := upd_same (H := upd (upd (upd (upd (upd (upd (upd (upd (upd H l1 (.lst [.int 0])) c1 (.lst (ps.map V.int ++ [.int 0]))) t1 (.tup [.ref c1, .ref q])) l2 (.lst [.int 5])) c2 (.lst (qs.map V.int ++ [.int 5]))) t2 (.tup [.ref p, .ref c2])) w1 (.lst ((ps.take (ps.length - 1)).map V.int))) l3 (.lst [.int (-1)])) c3 (.lst ((ps.take (ps.length - 1)).map V.int ++ [.int (-1)]))) (a := t3) (o := .tup [.ref c3, .ref q])
    have hp10 := hp.same q10
    have hq10 := hq.same q10
    clear q1 q2a q2 q3a q3 q4a q4 q5a q5 q6a q6 q7a q7 q8a q8 q9a q9 q10a
    generalize upd (upd (upd (upd (upd (upd (upd (upd (upd (upd H l1 (.lst [.int 0])) c1 (.lst (ps.map V.int ++ [.int 0]))) t1 (.tup [.ref c1, .ref q])) l2 (.lst [.int 5])) c2 (.lst (qs.map V.int ++ [.int 5]))) t2 (.tup [.ref p, .ref c2])) w1 (.lst ((ps.take (ps.length - 1)).map V.int))) l3 (.lst [.int (-1)])) c3 (.lst ((ps.take (ps.length - 1)).map V.int ++ [.int (-1)]))) t3 (.tup [.ref c3, .ref q]) = G0 at q10 q11a q11 z1 z2 z3 z4 z5 z6 nB hp10 hq10
    have bt0 : ∀ v ∈ [V.ref t1, .ref t2, .ref t3], BT B rs (upd G0 B (.lst [.ref t1, .ref t2, .ref t3])) v := by
      intro v hv
      rcases List.mem_cons.mp hv with rfl | hv
      · exact ⟨t1, c1, q, _, _, rfl, ne_new z2 nB, ne_new z1 nB, ne_new hq10 nB, q11a _ _ z2, z1.same q11a, hq10.same q11a, fun z => by have := z.1; rw [List.length_append] at this; have : ps.length + 1 = rs.length := this; omega⟩
      rcases List.mem_cons.mp hv with rfl | hv
      · exact ⟨t2, p, c2, _, _, rfl, ne_new z4 nB, ne_new hp10 nB, ne_new z3 nB, q11a _ _ z4, hp10.same q11a, z3.same q11a, fun z => by have := z.2.1; rw [List.length_append] at this; have : qs.length + 1 = rs.length := this; omega⟩
      obtain rfl := List.mem_singleton.mp hv
      exact ⟨t3, c3, q, _, _, rfl, ne_new z6 nB, ne_new z5 nB, ne_new hq10 nB, q11a _ _ z6, z5.same q11a, hq10.same q11a, fun z => by have := z.2.2.1 (-1) (List.mem_append_right _ List.mem_cons_self); omega⟩
    refine ⟨.ref g, rfl, g, _, rfl, .inl (.of (q11 _ _ hx)), (many : Nat), by rw [lx, lr], by omega, by omega, ?_⟩
    rw [Int.toNat_natCast]
    refine for_range (n := many) (lo := 0) (fun j σ G => SameX B (upd G0 B (.lst [.ref t1, .ref t2, .ref t3])) G ∧ ∃ (v5 v6 v7 v8 v9 v10 : Option V) (zs : List V), σ = [some (.ref a), some (.ref g), some (.ref p), some (.ref q), some (.ref B), v5, v6, v7, v8, v9, v10] ∧ G B = some (.lst zs) ∧ zs.length ≤ 3 + j ∧ ∀ v ∈ zs, BT B rs G v) ⟨fun _ _ _ h => h, _, _, _, _, _, _, _, rfl, upd_same, by show 3 ≤ _; omega, bt0⟩ (fun j σ G hj hP => ?_) (fun σ G hP => ?_)
    · obtain ⟨sX, v5, v6, v7, v8, v9, v10, zs, rfl, hB, lz, hZ⟩ := hP
      have sG : Same H G := same_x q10 (fun c o n h => sX c o n (q11a c o h)) (q10.free nB)
      rw [Int.zero_add]
      refine ⟨.ref g, rfl, g, _, rfl, .inl (.of (sG _ _ hx)), (many : Nat), by rw [lx, lr], by omega, by omega, fun N nN => ?_⟩
      rw [Int.toNat_natCast]
      refine lc_fm (walk_range (lo := 0) (n := many)) (List.range many) (ndF rs ps j) (fun _ v n => v = V.int n) (fun _ _ _ _ _ z => z) List.length_range nN (fun _ _ => trivial) (small' (by omega)) (fun i x G2 Gx ys o2 ho sm2 hD2 y Qt Qf qt qf => ?_) (fun G2 ys sm2 hN hR => ?_)
      · obtain ⟨rfl, rfl⟩ := y
        have hlt : i < many := by have := (List.getElem?_eq_some_iff.mp ho).1; rw [List.length_range] at this; exact this
        obtain rfl : o2 = i := by rw [List.getElem?_range hlt] at ho; exact (Option.some.inj ho).symm
        obtain ⟨r, hr2⟩ := some_at (xs := rs) (i := o2) (by omega)
        obtain ⟨v, hv, t, b, rfl, ht0, as, hb0, hE0⟩ := hA.get' hr2
        have lrow := (vg.2 r (mem_at hr2)).1
        obtain ⟨e, he⟩ := some_at (xs := r.2) (i := j) (by omega)
        obtain ⟨c, hc, hI0⟩ := hE0.get' he
        have s02 := sG.trans sm2
        have hx2 := s02 _ _ hx
        have ht2 := Same.seqT s02 ht0
        have hb2 := s02 _ _ hb0
        have hI2 := hI0.same s02
        have hat : atI xs (0 + (o2 : Int)) = some (.ref t) := by rw [Int.zero_add]; exact atI_nat hv
        have hatj : atI (as.map V.ref) (j : Int) = some (.ref c) := atI_nat (by rw [List.getElem?_map, hc]; rfl)
        have ef : ndF rs ps j o2 = (pw r.1 e).map fun k => cf ps o2 + k := by unfold ndF; rw [rw0_at hr2, el_at he]
        refine ⟨rfl, .ref g, rfl, _, rfl, g, _, _, _, rfl, rfl, .of hx2, hat, t, _, _, _, rfl, rfl, ht2, rfl, _, rfl, b, _, _, _, rfl, rfl, .of hb2, hatj, by show 0 ≤ sizeLine; decide, fun l nl => ?_⟩
        have s3 := same_upd nl (o := .lst [])
        refine ⟨dI e, .list [], dpI (hI2.same s3).sq, .lst (.of upd_same) .nil, shaped_dI e, rfl, _, rfl, ?_⟩
        rw [eqv_nil]
        by_cases z : e = []
        · rw [decide_eq_true z]
          exact iteF (qf (by rw [ef, z]; rfl) _ s3)
        · rw [decide_eq_false z]
          refine iteT ?_
          refine ⟨.ref p, rfl, _, rfl, p, _, _, _, rfl, rfl, (((hp.same sG).same sm2).same s3).sq, at_map' (m := o2) (Int.zero_add _) (by omega), ?_⟩
          refine ⟨.ref g, rfl, _, rfl, g, _, _, _, rfl, rfl, .of (s3 _ _ hx2), hat, t, _, _, _, rfl, rfl, Same.seqT s3 ht2, rfl, .ref g, rfl, _, rfl, g, _, _, _, rfl, rfl, .of (s3 _ _ hx2), hat, t, _, _, _, rfl, rfl, Same.seqT s3 ht2, rfl, _, rfl, b, _, _, _, rfl, rfl, .of (s3 _ _ hb2), hatj, c, e, r.1, rfl, (hI2.same s3).sq, z, ?_⟩
          exact ⟨_, _, rfl, rfl, qt _ _ _ (by rw [ef, pw_yes z]; rfl) s3 rfl⟩
      · have eN := a2_eq hR
        rw [eN] at hN
        have hN : IL G2 N (nds rs ps many j) := hN
        have lN := nds_len rs ps many j
        have hB2 := sm2 _ _ hB
        have sH2 := sG.trans sm2
        refine ⟨.ref N, rfl, by show 0 ≤ sizeLine; decide, fun l0 n0 => ?_⟩
        have s3 := same_upd n0 (o := .lst [])
        refine ⟨dI (nds rs ps many j), .list [], dpI (hN.same s3).sq, .lst (.of upd_same) .nil, shaped_dI _, rfl, _, rfl, ?_⟩
        rw [eqv_nil]
        by_cases zn : nds rs ps many j = []
        · rw [decide_eq_true zn]
          exact iteF ⟨sX.trans (sx (sm2.trans s3)), _, _, _, _, _, _, zs, rfl, s3 _ _ hB2, by omega, fun v hv => (hZ v hv).up (sx (sm2.trans s3))⟩
        · rw [decide_eq_false zn]
          refine iteT ?_
          have s23 := sm2.trans s3
          have sH3 := sG.trans s23
          generalize upd G2 l0 (.lst []) = G3 at s3 s23 sH3
          have hB3 := s3 _ _ hB2
          refine ⟨.ref B, rfl, .inl ⟨rfl, _, .of hB3⟩, .ref p, rfl, .ref q, rfl, _, rfl, _, rfl, q, _, rfl, (hq.same sH3).sq, fun d1 nd1 => ?_⟩
          rw [cutI_head (by omega)]
          have u1 := same_upd nd1 (o := .lst ((qs.take j).map V.int))
          refine ⟨.ref N, rfl, N, nds rs ps many j, rfl, ((hN.same s3).same u1).sq, List.length_pos_iff.mpr zn, fun m hm1 hm2 => ?_⟩
          refine ⟨_, _, rfl, rfl, .ref a, rfl, _, rfl, _, _, rfl, rfl, a, ds, _, _, rfl, (ha.same sH3).same u1, by omega, by decide, fun r p1 p2 => ?_⟩
          refine ⟨_, _, rfl, rfl, by show 1 ≤ sizeLine; decide, fun l nl => ?_⟩
          have u2a := same_upd nl (o := .lst [.int (m - 1 - r)])
          have u2 := u1.trans u2a
          refine ⟨d1, l, _, _, rfl, rfl, u2a _ _ upd_same, upd_same, by rw [List.length_map, List.length_take]; exact small (by show _ + 1 ≤ _; omega), fun d2 nd2 => ?_⟩
          have u3a := same_upd nd2 (o := .lst ((qs.take j).map V.int ++ [.int (m - 1 - r)]))
          have u3 := u2.trans u3a
          refine ⟨.ref q, rfl, _, rfl, _, _, rfl, rfl, ((j + 1 : Nat) : Int), congrArg V.int (by omega), q, _, rfl, ((hq.same sH3).same u3).sq, fun d3 nd3 => ?_⟩
          rw [cutI_tail (by omega)]
          have u4a := same_upd nd3 (o := .lst ((qs.drop (j + 1)).map V.int))
          have u4 := u3.trans u4a
          refine ⟨d2, d3, _, _, rfl, rfl, u4a _ _ upd_same, upd_same, by rw [List.length_append, List.length_map, List.length_map, List.length_take, List.length_drop]; exact small (by show _ + 1 + _ ≤ _; omega), fun d4 nd4 => ?_⟩
          have u5a := same_upd nd4 (o := .lst (((qs.take j).map V.int ++ [.int (m - 1 - r)]) ++ (qs.drop (j + 1)).map V.int))
          have u5 := u4.trans u5a
          refine ⟨by show 2 ≤ sizeLine; decide, fun tn ntn => ?_⟩
          have u6a := same_upd ntn (o := .tup [.ref p, .ref d4])
          have u6 := u5.trans u6a
          have y1 : IL (upd (upd (upd (upd (upd (upd G3 d1 (.lst ((qs.take j).map V.int))) l (.lst [.int (m - 1 - r)])) d2 (.lst ((qs.take j).map V.int ++ [.int (m - 1 - r)]))) d3 (.lst ((qs.drop (j + 1)).map V.int))) d4 (.lst (((qs.take j).map V.int ++ [.int (m - 1 - r)]) ++ (qs.drop (j + 1)).map V.int))) tn (.tup [.ref p, .ref d4])) d4 ((qs.take j ++ [m - 1 - r]) ++ qs.drop (j + 1)) := by
            unfold IL
            rw [List.map_append, List.map_append]
            exact u6a _ _ upd_same
          have y2 := upd_same (H := upd (upd (upd (upd (upd G3 d1 (.lst ((qs.take j).map V.int))) l (.lst [.int (m - 1 - r)])) d2 (.lst ((qs.take j).map V.int ++ [.int (m - 1 - r)]))) d3 (.lst ((qs.drop (j + 1)).map V.int))) d4 (.lst (((qs.take j).map V.int ++ [.int (m - 1 - r)]) ++ (qs.drop (j + 1)).map V.int))) (a := tn) (o := .tup [.ref p, .ref d4])
          have nd4B : d4 ≠ B := fun z => by rw [z, u4 _ _ hB3] at nd4; cases nd4
          have ntB : tn ≠ B := fun z => by rw [z, u5 _ _ hB3] at ntn; cases ntn
          have npB : p ≠ B := ne_new hp10 nB
          have hp6 := (hp.same sH3).same u6
          have hB6 := u6 _ _ hB3
          clear u1 u2a u2 u3a u3 u4a u4 u5a u5 u6a
          generalize upd (upd (upd (upd (upd (upd G3 d1 (.lst ((qs.take j).map V.int))) l (.lst [.int (m - 1 - r)])) d2 (.lst ((qs.take j).map V.int ++ [.int (m - 1 - r)]))) d3 (.lst ((qs.drop (j + 1)).map V.int))) d4 (.lst (((qs.take j).map V.int ++ [.int (m - 1 - r)]) ++ (qs.drop (j + 1)).map V.int))) tn (.tup [.ref p, .ref d4]) = G6 at u6 y1 y2 hp6 hB6
          refine ⟨B, _, _, rfl, rfl, hB6, small' (by omega), ?_⟩
          have sx6 : SameX B G G6 := sx (s23.trans u6)
          refine ⟨(sX.trans sx6).trans SameX.put, _, _, _, _, _, _, zs ++ [.ref tn], rfl, upd_same, by rw [List.length_append]; exact Nat.succ_le_succ lz, fun v hv => ?_⟩
          rcases List.mem_append.mp hv with hv | hv
          · exact (hZ v hv).up (sx6.trans SameX.put)
          · obtain rfl := List.mem_singleton.mp hv
            exact BT.up SameX.put ⟨tn, p, d4, _, _, rfl, ntB, npB, nd4B, y2, hp6, y1, bad_put lr lq hj hm1 p1⟩
    · obtain ⟨sX, v5, v6, v7, v8, v9, v10, zs, rfl, hB, lz, hZ⟩ := hP
      have sG : Same H G := same_x q10 (fun c o n h => sX c o n (q11a c o h)) (q10.free nB)
      have tbG := tabG_same tb sG
      have hgG : GR K G g rs := (show GR K H g rs from ⟨xs, hx, hA⟩).lk (K50.lk sG)
      have shP : SeqAt.shaped (.tuple [.bool true, .int 0]) = true := rfl
      have eqP : PyData.eqv (.tuple [.bool true, .int 0]) (.tuple [.bool true, .int 0]) = true := SeqAt.eqv_refl _ (SeqAt.canLay_of_shaped shP)
      refine ⟨.ref B, rfl, B, rfl, ⟨_, .of hB⟩, ?_⟩
      refine for_it (walk_list (xs := zs)) (fun i σ G2 => LkN G G2 ∧ GxR.TabG G2 P2 ∧ ∃ (v5 v6 v7 v8 v9 v10 : Option V), σ = [some (.ref a), some (.ref g), some (.ref p), some (.ref q), some (.ref B), v5, v6, v7, v8, v9, v10]) ⟨.refl, tbG, _, _, _, _, _, _, rfl⟩ (fun i σ G2 _ hP => .of (hP.1.1.lst hB)) (fun i x σ G2 Gx hi hP y => ?_) (fun σ G2 hP => ?_)
      · obtain ⟨kG, tG, v5, v6, v7, v8, v9, v10, rfl⟩ := hP
        obtain ⟨rfl, hxi⟩ := y
        obtain ⟨t, c, d, us, ws, rfl, _, _, _, ht, hc, hd, nm⟩ := hZ _ (mem_at hxi)
        refine ⟨t, _, rfl, .inl (.inl (kG.1 _ _ ht (fun _ z => by cases z))), rfl, _, _, rfl, _, _, rfl, rfl, ?_⟩
        refine ⟨2, rfl, by decide, by decide, ?_⟩
        refine for_range (n := 2) (lo := 0) (fun k σ G3 => LkN G G3 ∧ GxR.TabG G3 P2 ∧ ∃ (v9 : Option V), σ = [some (.ref a), some (.ref g), some (.ref p), some (.ref q), some (.ref B), v5, v6, some (.ref c), some (.ref d), v9, v10]) ⟨kG, tG, _, rfl⟩ (fun k σ G3 hk hP => ?_) (fun σ G3 hP => ?_)
        · obtain ⟨k3, t3, v9, rfl⟩ := hP
          refine ⟨_, rfl, .ref g, rfl, .ref c, rfl, c, _, rfl, .inl (k3.1.seqL hc.sq), fun e1 ne1 => ?_⟩
          have w1 := same_upd ne1 (o := .lst (us.map V.int))
          refine ⟨.ref d, rfl, d, _, rfl, .inl ((k3.1.trans (K50.lk w1)).seqL hd.sq), fun e2 ne2 => ?_⟩
          have w2a := same_upd ne2 (o := .lst (ws.map V.int))
          have w2 := w1.trans w2a
          refine ⟨g, e1, e2, _, rs, us, ws, many, rfl, hgG.lk (k3.1.trans (K50.lk w2)), vg, hm, .of (w2a _ _ upd_same), .of upd_same, tabG_same t3 w2, nm, fun G4 u k4 t4 hu => ?_⟩
          refine ⟨by show 2 ≤ sizeLine; decide, fun u8 nu8 => ?_⟩
          have w3 := same_upd nu8 (o := .tup [.bl true, .int 0])
          refine ⟨.tuple [.bool true, .int 0], .tuple [.bool true, .int 0], .tup (.inl (.inl (w3 _ _ hu))) (.cons (.bl true) (.cons (.int 0) .nil)), .tup (.inl (.inl upd_same)) (.cons (.bl true) (.cons (.int 0) .nil)), shP, shP, _, rfl, ?_⟩
          rw [eqP]
          exact iteF ⟨((k3.trans (lkN w2)).trans k4).trans (lkN w3), tabG_same t4 w3, _, rfl⟩
        · obtain ⟨k3, t3, v9, rfl⟩ := hP
          exact ⟨k3, t3, _, _, _, _, _, _, rfl⟩
      · obtain ⟨kG, tG, v5, v6, v7, v8, v9, v10, rfl⟩ := hP
        exact fin _ ((lkN sG).trans kG) tG
end
-- X
theorem Lk.over {H H' : Hp} {e : Addr} {o : HO} (s : Lk H H') (h : H e = none) : Lk H (upd H' e o) := fun b u z n => by
  rw [upd_ne fun y => by rw [y, h] at z; cases z]
  exact s b u z n
theorem tabG_over {H : Hp} {P e : Addr} {o : HO} {xs : List V} (h : GxR.TabG H P) (he : H e = some (.lst xs)) : GxR.TabG (upd H e o) P := let ⟨ps, hP, t⟩ := h; ⟨ps, by rw [upd_ne fun z => by rw [z] at hP; have := hP.symm.trans he; cases this]; exact hP, t⟩
theorem map_get {ns : List Int} {m : Nat} {x : V} (h : (ns.map V.int)[m]? = some x) : m < ns.length ∧ x = V.int (cf ns m) := by
  have hm : m < ns.length := by have := (List.getElem?_eq_some_iff.mp h).1; rw [List.length_map] at this; exact this
  rw [List.getElem?_map, at_map hm] at h
  exact ⟨hm, (Option.some.inj h).symm⟩
theorem fm_if (t : Nat → Bool) : ∀ xs : List Nat, xs.filterMap (fun j => if t j = true then some (j : Int) else none) = (xs.filter t).map fun (j : Nat) => (j : Int)
  | [] => rfl
  | x :: r => by
    rw [List.filterMap_cons, List.filter_cons]
    cases h : t x with
    | true => rw [if_pos rfl, if_pos rfl, List.map_cons, fm_if t r]
    | false => rw [if_neg (by decide), if_neg (by decide), fm_if t r]
theorem fm_nil {α : Type} : ∀ xs : List α, xs.filterMap (fun _ => (none : Option Int)) = []
  | [] => rfl
  | _ :: r => by rw [List.filterMap_cons, fm_nil r]
/-- a row of what is due -/
def RR (N Z : Addr) (H : Hp) (v : V) (e : List Int) : Prop := ∃ a, v = .ref a ∧ Of N Z a ∧ IL H a e
theorem RR.up {N Z : Addr} {H H' : Hp} {v : V} {e : List Int} (s : SP N Z H H') (h : RR N Z H v e) : RR N Z H' v e := let ⟨a, e2, n, z⟩ := h; ⟨a, e2, n, s _ _ n z⟩
/-- a row that was told -/
def ER (H0 : Hp) (L1 L2 : Addr) (G : Hp) (n : Nat) (v : V) : Prop := ∃ e ns, v = .ref e ∧ H0 e = none ∧ Of L1 L2 e ∧ IL G e ns ∧ ns.length ≤ n
theorem ER.step {H0 G : Hp} {L1 L2 e : Addr} {n : Nat} {ns : List Int} {v : V} (h : ER H0 L1 L2 G n v) (hl : ns.length ≤ n) : ER H0 L1 L2 (upd G e (.lst (ns.map V.int ++ [V.int 8]))) (n + 1) v := by
  obtain ⟨e2, ms, rfl, h0, off, hm, hlm⟩ := h
  by_cases z : e2 = e
  · exact ⟨e2, ns ++ [8], rfl, h0, off, by unfold IL; rw [z, upd_same, ← app_ints], by rw [List.length_append]; exact Nat.succ_le_succ hl⟩
  · exact ⟨e2, ms, rfl, h0, off, by unfold IL; rw [upd_ne z]; exact hm, Nat.le_succ_of_le hlm⟩
theorem ER.same {H0 G G' : Hp} {L1 L2 : Addr} {n : Nat} {v : V} (s : Same G G') (h : ER H0 L1 L2 G n v) : ER H0 L1 L2 G' n v := let ⟨e, ns, a, b, c, d, f⟩ := h; ⟨e, ns, a, b, c, d.same s, f⟩
theorem A2.row {α : Type} {R S : V → α → Prop} (f : ∀ v a, R v a → S v a) {xs : List V} {ys : List α} (h : A2 R xs ys) : A2 S xs ys := h.mono fun v a z => f v a z
theorem trow_len (r : Rw) (m : Int) (qs : List Int) : (trow r m qs).length = qs.length := by unfold trow; rw [List.length_map, List.length_range]
theorem exL_row {rs : List Rw} {ps qs : List Int} {many : Nat} : ∀ e ∈ (exL rs ps qs many).map (fun p => p.2), e.length ≤ qs.length := fun e he => by
  obtain ⟨p, hp, rfl⟩ := List.mem_map.mp he
  obtain ⟨i, hi, z⟩ := List.mem_filterMap.mp hp
  split at z
  · cases z; exact Nat.le_of_eq (trow_len _ _ _)
  · cases z
theorem tcL_row {rs : List Rw} {ps qs : List Int} {many : Nat} : ∀ e ∈ (tcL rs ps qs many).map (fun p => p.2), e.length ≤ qs.length := fun e he => by
  obtain ⟨p, hp, rfl⟩ := List.mem_map.mp he
  obtain ⟨i, hi, z⟩ := List.mem_filterMap.mp hp
  split at z
  · cases z
  · cases z; exact tcol_len _ _ _ _
theorem a2_mem {α : Type} {R : V → α → Prop} {xs : List V} {ys : List α} (h : A2 R xs ys) {v : V} (hv : v ∈ xs) : ∃ a ∈ ys, R v a := by
  induction h with
  | nil => cases hv
  | cons h _ ih =>
    rcases List.mem_cons.mp hv with rfl | hv
    · exact ⟨_, List.mem_cons_self, h⟩
    · obtain ⟨a, ha, z⟩ := ih hv
      exact ⟨a, List.mem_cons_of_mem _ ha, z⟩
section
variable {P : Program} {w : World} {K : PySem.W.Frag} {mg : Str → Option Value} {base : Heap}
def sp_law (K : PySem.W.Frag) (P : Addr) : Sp := fun vs H Q _ => ∃ (a : Addr) (ns : List Int), vs = [.ref a] ∧ SqL K H a (ns.map V.int) ∧ ns.length ≤ 63 ∧ GxR.TabG H P ∧ ∀ H', Q (.bl true) H'
theorem ok_law (T : Txt K mg) (X : Errs K mg) (Y : Frm K mg) {P2 : Addr} (TB : GxR.TabB base mg T.is_marks.c P2) : LG.FnG P w K mg base CX0 8 T.law.a T.law.fd ["script"] (sp_law K P2) := by
  refine LG.fun_okG T.law.F sc_law (fun vs H Q E h => ?_) (fun cdv A outer s H vs Q E hr gd h => ?_)
  · obtain ⟨a, ns, rfl, _⟩ := h
    rfl
  · obtain ⟨a, ns, rfl, ha, hl, tb, q⟩ := h
    refine ⟨_, (pss_cons (ps_set (i := 1) sc_law.nd rfl (.inl rfl) (pe_call (ok_law_draws T) (hr.mono (by decide)) (by rfl) T.law_draws.g T.law_draws.F.kp T.law_draws.b .nil pass0 (pa_cons (pv 0) pa_nil)))
      (pss_cons (ps_set (i := 2) sc_law.nd rfl (.inr rfl) (pe_call (ok_law_grid T) (hr.mono (by decide)) (by rfl) T.law_grid.g T.law_grid.F.kp T.law_grid.b .nil pass0 (pa_cons (pv 1) (pa_cons pe_int (pa_cons (pe_call (ok_law_mix T) (hr.mono (by decide)) (by rfl) T.law_mix.g T.law_mix.F.kp T.law_mix.b .nil pass0 (pa_cons (pv 1) (pa_cons pe_int (pa_cons (pe_ix ix_list (pe_lst (pa_cons pe_int (pa_cons pe_int pa_nil))) (pe_callTy call_int1 (by rfl) T.m_int (by decide +kernel) (pa_cons (pe_cmpR op_eq (pe_call (ok_law_mix T) (hr.mono (by decide)) (by rfl) T.law_mix.g T.law_mix.F.kp T.law_mix.b .nil pass0 (pa_cons (pv 1) (pa_cons pe_int (pa_cons pe_int pa_nil)))) pe_int (nomark _)) pa_nil)) (fun _ _ => rfl)) pa_nil)))) pa_nil)))))
      (pss_cons (ps_set (i := 3) sc_law.nd rfl (.inl rfl) (pe_callB call_len_seq (by rfl) T.m_len (by decide +kernel) (pa_cons (pv 2) pa_nil)))
      (pss_cons (ps_asg (pe_call (ok_law_marks T) (hr.mono (by decide)) (by rfl) T.law_marks.g T.law_marks.F.kp T.law_marks.b .nil pass0 (pa_cons (pv 1) (pa_cons (pv 2) pa_nil))) (pg_tup rfl (pgs_cons (pg_name (i := 4) sc_law.nd rfl (.inr rfl)) (pgs_cons (pg_name (i := 5) sc_law.nd rfl (.inr rfl)) pgs_nil))))
      (pss_cons (ps_set (i := 6) sc_law.nd rfl (.inl rfl) (pe_callB (LG.call_reprD gd hr.units) (by rfl) T.m_repr (by decide +kernel) (pa_cons (pe_tup (pa_cons (pv 2) (pa_cons (pv 4) (pa_cons (pv 5) pa_nil)))) pa_nil)))
      (pss_cons (ps_set (i := 7) sc_law.nd rfl (.inl rfl) (pe_lst pa_nil))
      (pss_cons (ps_set (i := 8) sc_law.nd rfl (.inl rfl) (pe_lst pa_nil))
      (pss_cons (ps_for PassesOwn.never rfl (pi_range1 (by rfl) T.m_range (pa_cons (pv 3) pa_nil)) (pg_name (i := 9) sc_law.nd rfl (.inr rfl))
        (pss_cons (ps_asg (pe_ix ix_list (pv 2) (pv 9) (fun _ _ => rfl)) (pg_tup rfl (pgs_cons (pg_name (i := 10) sc_law.nd rfl (.inl rfl)) (pgs_cons (pg_name (i := 11) sc_law.nd rfl (.inr rfl)) pgs_nil))))
        (pss_one (ps_if (pt_cmpR op_eq (pv 10) pe_str (nomark _))
          (pss_one (ps_expr (pe_bm PySem.F.plainAttrs_list PySem.F.slot_list_append PySem.F.type_list_append mt_append (pv 7) (pa_cons (pe_lc (own := [("j", 14)]) rfl sc_law.nd (pi_range1 (by rfl) T.m_range (pa_cons (pv 3) pa_nil)) (blkOk_by (N := ["script", "draws", "grid", "many", "p", "q", "kept", "numbers", "places", "i", "kind", "row", "first", "second", "j", "item"]) (sc := defScope s_law) (by decide +kernel)) (fun _ _ _ _ _ => (pg_name (i := 14) sc_law.nd rfl (.inl rfl))) (fun _ _ _ _ _ => pts_nil) (fun _ _ _ _ _ => (pe_ifExp (pt_val (pe_call (ok_law_is_tight T) (hr.mono (by decide)) (by rfl) T.law_is_tight.g T.law_is_tight.F.kp T.law_is_tight.b .nil pass0 (pa_cons (pv 2) (pa_cons (pv 4) (pa_cons (pv 5) (pa_cons (pv 9) (pa_cons (pv 14) pa_nil))))))) (pe_ix (r := rIxL K) ix_list (pe_ix (r := rIxL K) ix_list (pv 11) (pv 14) (fun _ _ => rfl)) (pe_un un_neg pe_int) (fun _ _ => rfl)) pe_int))) pa_nil))))
          (pss_one (ps_expr (pe_bm PySem.F.plainAttrs_list PySem.F.slot_list_append PySem.F.type_list_append mt_append (pv 8) (pa_cons (pe_lc (own := [("j", 14)]) rfl sc_law.nd (pi_range1 (by rfl) T.m_range (pa_cons (pv 3) pa_nil)) (blkOk_by (N := ["script", "draws", "grid", "many", "p", "q", "kept", "numbers", "places", "i", "kind", "row", "first", "second", "j", "item"]) (sc := defScope s_law) (by decide +kernel)) (fun _ _ _ _ _ => (pg_name (i := 14) sc_law.nd rfl (.inl rfl))) (fun _ _ _ _ _ => (pts_one (pt_val (pe_call (ok_law_is_tight T) (hr.mono (by decide)) (by rfl) T.law_is_tight.g T.law_is_tight.F.kp T.law_is_tight.b .nil pass0 (pa_cons (pv 2) (pa_cons (pv 4) (pa_cons (pv 5) (pa_cons (pv 9) (pa_cons (pv 14) pa_nil))))))))) (fun _ _ _ _ _ => (pv 14))) pa_nil))))))))
      (pss_cons (ps_set (i := 12) sc_law.nd rfl (.inl rfl) (pe_call (ok_tight_numbers T X Y TB) (hr.mono (by decide)) (by rfl) T.tight_numbers.g T.tight_numbers.F.kp T.tight_numbers.b .nil (passes_call takes0 fun _ _ _ _ h => h) (pa_cons (pv 2) (pa_cons (pv 4) (pa_cons (pv 5) pa_nil)))))
      (pss_cons (ps_set (i := 13) sc_law.nd rfl (.inl rfl) (pe_call (ok_tight_places T X Y TB) (hr.mono (by decide)) (by rfl) T.tight_places.g T.tight_places.F.kp T.tight_places.b .nil (passes_call takes0 fun _ _ _ _ h => h) (pa_cons (pv 2) (pa_cons (pv 4) (pa_cons (pv 5) pa_nil)))))
      (pss_cons (ps_if (PW.pt (pw_or (pt_not (pt_val (pe_callB call_isi (by rfl) T.m_isinstance (by decide +kernel) (pa_cons (pv 12) (pa_cons (pe_bltn (v := .ty "list") (by rfl) T.m_list (by decide +kernel) rfl) pa_nil))))) (pw_or (pt_not (pt_val (pe_callB call_isi (by rfl) T.m_isinstance (by decide +kernel) (pa_cons (pv 13) (pa_cons (pe_bltn (v := .ty "list") (by rfl) T.m_list (by decide +kernel) rfl) pa_nil))))) (pw_or (pt_cmpR (op_neD hr.units) (pv 12) (pv 7) (nomark _)) (pw_or1 (pt_cmpR (op_neD hr.units) (pv 13) (pv 8) (nomark _)))))))
        (pss_one (ps_ret pe_bl))
        pss_nil)
      (pss_cons (ps_for PassesOwn.never rfl (pi_list (pe_op op_cat (pv 12) (pv 13))) (pg_name (i := 11) sc_law.nd rfl (.inr rfl))
        (pss_cons (ps_if (PW.pt (pw_or (pt_not (pt_val (pe_callB call_isi (by rfl) T.m_isinstance (by decide +kernel) (pa_cons (pv 11) (pa_cons (pe_bltn (v := .ty "list") (by rfl) T.m_list (by decide +kernel) rfl) pa_nil))))) (pw_or1 (pt_cmpR (op_neD hr.units) (pe_lc (own := [("item", 15)]) rfl sc_law.nd (pi_list (pv 11)) (blkOk_by (N := ["script", "draws", "grid", "many", "p", "q", "kept", "numbers", "places", "i", "kind", "row", "first", "second", "j", "item"]) (sc := defScope s_law) (by decide +kernel)) (fun _ _ _ _ _ => (pg_name (i := 15) sc_law.nd rfl (.inl rfl))) (fun _ _ _ _ _ => (pts_one (pt_not (pt_val (pe_call (ok_law_is_integer T) (hr.mono (by decide)) (by rfl) T.law_is_integer.g T.law_is_integer.F.kp T.law_is_integer.b .nil pass0 (pa_cons (pv 15) pa_nil)))))) (fun _ _ _ _ _ => (pv 15))) (pe_lst pa_nil) (nomark _)))))
          (pss_one (ps_ret pe_bl))
          pss_nil)
        (pss_one (ps_expr (pe_bm PySem.F.plainAttrs_list PySem.F.slot_list_append PySem.F.type_list_append mt_append (pv 11) (pa_cons pe_int pa_nil))))))
      (pss_cons (ps_expr (pe_bm PySem.F.plainAttrs_list PySem.F.slot_list_append PySem.F.type_list_append mt_append (pv 12) (pa_cons pe_int pa_nil)))
      (pss_cons (ps_expr (pe_bm PySem.F.plainAttrs_list PySem.F.slot_list_append PySem.F.type_list_append mt_append (pv 13) (pa_cons pe_int pa_nil)))
      (pss_cons (ps_if (PW.pt (pw_or (pt_cmpR op_ne (pe_callB (LG.call_reprD gd hr.units) (by rfl) T.m_repr (by decide +kernel) (pa_cons (pe_tup (pa_cons (pv 2) (pa_cons (pv 4) (pa_cons (pv 5) pa_nil)))) pa_nil)) (pv 6) (nomark _)) (pw_or (pt_cmpR (op_neD hr.units) (pe_call (ok_tight_numbers T X Y TB) (hr.mono (by decide)) (by rfl) T.tight_numbers.g T.tight_numbers.F.kp T.tight_numbers.b .nil (passes_call takes0 fun _ _ _ _ h => h) (pa_cons (pv 2) (pa_cons (pv 4) (pa_cons (pv 5) pa_nil)))) (pv 7) (nomark _)) (pw_or1 (pt_cmpR (op_neD hr.units) (pe_call (ok_tight_places T X Y TB) (hr.mono (by decide)) (by rfl) T.tight_places.g T.tight_places.F.kp T.tight_places.b .nil (passes_call takes0 fun _ _ _ _ h => h) (pa_cons (pv 2) (pa_cons (pv 4) (pa_cons (pv 5) pa_nil)))) (pv 8) (nomark _))))))
        (pss_one (ps_ret pe_bl))
        pss_nil)
      (pss_one (ps_ret (pe_and (pe_call (ok_law_bad T X Y TB) (hr.mono (by decide)) (by rfl) T.law_bad.g T.law_bad.F.kp T.law_bad.b .nil pass0 (pa_cons (pv 1) (pa_cons (pv 2) (pa_cons (pv 4) (pa_cons (pv 5) pa_nil))))) (pe_one (pe_cmpR op_eq (pe_callB (LG.call_reprD gd hr.units) (by rfl) T.m_repr (by decide +kernel) (pa_cons (pe_tup (pa_cons (pv 2) (pa_cons (pv 4) (pa_cons (pv 5) pa_nil)))) pa_nil)) (pv 6) (nomark _))))))))))))))))))))), ?_⟩
    refine ⟨.ref a, rfl, a, ns, rfl, ha, hl, fun H1 d ds s1 nd hd _ => ?_⟩
    refine ⟨.ref d, rfl, .ref d, rfl, by show 2 ≤ sizeLine; decide, fun l0 n0 => ?_⟩
    have s2 := s1.trans (same_upd n0 (o := .lst [.int 9, .int 17]))
    have hd2 := hd.same (same_upd n0 (o := .lst [.int 9, .int 17]))
    refine ⟨.ref d, rfl, d, ds, _, _, rfl, hd2, by decide, by decide, fun r1 p1 u1 => ⟨rfl, .inr ⟨_, rfl, ?_⟩⟩⟩
    obtain ⟨bi, eb, b0, b1⟩ : ∃ bi : Int, (if decide (V.int r1 = V.int 2) = true then (1 : Int) else 0) = bi ∧ 0 ≤ bi ∧ bi ≤ 1 := ⟨_, rfl, by split <;> omega, by split <;> omega⟩
    rw [eb]
    have hlt : bi.toNat < [(9 : Int), 17].length := by show _ < 2; omega
    refine ⟨l0, _, _, _, rfl, rfl, .of upd_same, at_map' (ns := [9, 17]) (m := bi.toNat) (by omega) hlt, ?_⟩
    obtain ⟨m0, m1⟩ := (by decide : ∀ x ∈ [(9 : Int), 17], 0 < x ∧ x ≤ 17) _ (mem_at (at_map hlt))
    refine ⟨d, ds, _, _, rfl, hd2, by decide, m0, fun r2 p2 u2 => ?_⟩
    obtain ⟨many, em, hmany⟩ : ∃ m : Nat, r2 = (m : Int) ∧ m ≤ 16 := ⟨r2.toNat, by omega, by omega⟩
    subst em
    refine ⟨d, ds, _, many, rfl, hd2, by decide, hmany, fun H3 g rs s3 hg vg => ?_⟩
    have hd3 := hd2.same s3
    have tb3 := tabG_same (tabG_same tb s2) s3
    have lr := vg.1
    have hgx := hg
    obtain ⟨xs, hx, hA⟩ := hgx
    have lx := hA.len
    refine ⟨.ref g, rfl, g, _, rfl, .inl (.of hx), ?_⟩
    rw [lx, lr]
    refine ⟨.ref d, rfl, .ref g, rfl, d, g, ds, rs, many, rfl, hd3, hg, vg, hmany, fun H4 t p q0 ps qs s4 ht hp hq lp lq mk hps hqb => ?_⟩
    refine ⟨t, _, rfl, .inl (.inl ht), rfl, _, _, rfl, _, _, rfl, rfl, ?_⟩
    have hd4 := hd3.same s4
    have hg4 := hg.lk (K50.lk s4)
    have tb4 := tabG_same tb3 s4
    have gD := gd_dKe vg hmany (fun n hn => by have := hps n hn; exact Nat.le_trans (show _ ≤ 4 by omega) (by decide)) (by omega) hqb (by omega)
    have gd0 := PyData.hasDict_of_canLay _ gD.lay
    have dgt : ∀ (G : Hp) (u : Addr), Lk H4 G → G u = some (.tup [.ref g, .ref p, .ref q0]) → Dp K G (.ref u) (dKe rs ps qs) := fun G u h1 h3 => .tup (.inl (.inl h3)) (.cons (dp_gr (hg4.lk h1)) (.cons (dpI (h1.seqL hp.sq)) (.cons (dpI (h1.seqL hq.sq)) .nil)))
    have gDd : (dKe rs ps qs).depth ≤ 60 := Nat.le_trans gD.dep (by decide)
    have gDl : (dKe rs ps qs).shown.length ≤ sizeLine := Nat.le_trans gD.len (by decide)
    refine ⟨.ref g, rfl, .ref p, rfl, .ref q0, rfl, by show 3 ≤ sizeLine; decide, fun u1 nu1 => ?_⟩
    have s5 := same_upd nu1 (o := .tup [.ref g, .ref p, .ref q0])
    refine ⟨u1, dKe rs ps qs, rfl, dgt _ u1 (K50.lk s5) upd_same, gD.sh, gd0, gDd, gDl, ?_⟩
    generalize hkept : (dKe rs ps qs).shown = kept
    have tb5 := tabG_same tb4 s5
    refine ⟨by show 0 ≤ sizeLine; decide, fun N nN => ?_⟩
    have s6 := s5.trans (same_upd nN (o := .lst []))
    refine ⟨by show 0 ≤ sizeLine; decide, fun Z nZ => ?_⟩
    have s7a := same_upd nZ (o := .lst [])
    have s7 := s6.trans s7a
    have NZ : N ≠ Z := fun z => by rw [← z, upd_same] at nZ; cases nZ
    have hN7 := s7a _ _ (upd_same (H := upd H4 u1 (.tup [.ref g, .ref p, .ref q0])) (a := N) (o := .lst []))
    have hZ7 := upd_same (H := upd (upd H4 u1 (.tup [.ref g, .ref p, .ref q0])) N (.lst [])) (a := Z) (o := .lst [])
    have nN4 : H4 N = none := s5.free nN
    have nZ4 : H4 Z = none := s6.free nZ
    generalize upd (upd (upd H4 u1 (.tup [.ref g, .ref p, .ref q0])) N (.lst [])) Z (.lst []) = H7 at s7 hN7 hZ7
    refine ⟨_, rfl, (many : Nat), rfl, by omega, by omega, ?_⟩
    rw [Int.toNat_natCast]
    refine for_range (n := many) (lo := 0) (fun i σ G => Same H4 G ∧ ∃ (v9 v10 v11 v14 v15 : Option V) (zs ws : List V), σ = [some (.ref a), some (.ref d), some (.ref g), some (.int (many : Nat)), some (.ref p), some (.ref q0), some (.str kept), some (.ref N), some (.ref Z), v9, v10, v11, none, none, v14, v15] ∧ G N = some (.lst zs) ∧ G Z = some (.lst ws) ∧ A2 (RR N Z G) zs ((exL rs ps qs i).map fun p => p.2) ∧ A2 (RR N Z G) ws ((tcL rs ps qs i).map fun p => p.2)) ⟨s7, _, _, _, _, _, [], [], rfl, hN7, hZ7, .nil, .nil⟩ (fun i σ G hi hP => ?_) (fun σ G hP => ?_)
    · obtain ⟨sG, v9, v10, v11, v14, v15, zs, ws, rfl, hN, hZ, hR, hT⟩ := hP
      rw [Int.zero_add]
      obtain ⟨r, hr2⟩ := some_at (xs := rs) (i := i) (by omega)
      obtain ⟨v, hv, hV⟩ := ((hA.mono fun _ _ z => (z.lk (K50.lk s4)).lk (K50.lk sG))).get' hr2
      obtain ⟨tt, b, rfl, htt, as, hb, hE⟩ := hV
      have hxG := sG _ _ (s4 _ _ hx)
      have lrow := (vg.2 r (mem_at hr2)).1
      have er := rw0_at hr2
      have stE := exL_step (rs := rs) (ps := ps) (qs := qs) (n := i)
      have stT := tcL_step (rs := rs) (ps := ps) (qs := qs) (n := i)
      rw [er] at stE stT
      have l1 := hR.len
      have l2 := hT.len
      rw [List.length_map] at l1 l2
      have m1 := exL_len (rs := rs) (ps := ps) (qs := qs) i
      have m2 := tcL_len (rs := rs) (ps := ps) (qs := qs) i
      refine ⟨.ref g, rfl, _, rfl, g, _, _, _, rfl, rfl, .of hxG, atI_nat hv, tt, _, rfl, htt, rfl, _, _, rfl, _, _, rfl, rfl, ?_⟩
      refine ⟨_, rfl, rfl, _, rfl, ?_⟩
      rw [str_ex]
      have tight_arg : ∀ (Gx : Hp) (j : Nat) (e : List Int), Same G Gx → r.2[j]? = some e → GR K Gx g rs ∧ SqL K Gx p (ps.map V.int) ∧ SqL K Gx q0 (qs.map V.int) := fun Gx j e s _ => ⟨hg4.lk ((K50.lk sG).trans (K50.lk s)), ((hp.same sG).same s).sq, ((hq.same sG).same s).sq⟩
      cases ex : r.1 with
      | true =>
        rw [ex] at stE stT
        rw [if_pos rfl] at stE stT
        rw [List.append_nil] at stT
        refine iteT ⟨.ref N, rfl, .inl ⟨rfl, _, .of hN⟩, _, rfl, (many : Nat), rfl, by omega, by omega, fun D nD => ?_⟩
        rw [Int.toNat_natCast]
        refine lc_fm (walk_range (lo := 0) (n := many)) (List.range many) (fun j => some (if tight r.1 (cf ps i) (cf qs j) (r.2.getD j []) = true then lst (r.2.getD j []) else 0)) (fun _ v n => v = V.int n) (fun _ _ _ _ _ z => z) List.length_range nD (fun _ _ => trivial) (small' (by omega)) (fun i2 x G2 Gx ys o2 ho sm2 hD2 y Qt Qf qt qf => ?_) (fun G2 ys sm2 hD hRR => ?_)
        · obtain ⟨rfl, rfl⟩ := y
          have hlt : i2 < many := by have := (List.getElem?_eq_some_iff.mp ho).1; rw [List.length_range] at this; exact this
          obtain rfl : o2 = i2 := by rw [List.getElem?_range hlt] at ho; exact (Option.some.inj ho).symm
          obtain ⟨e, he⟩ := some_at (xs := r.2) (i := o2) (by omega)
          obtain ⟨c, hc, hI⟩ := hE.get' he
          obtain ⟨g1, g2, g3⟩ := tight_arg Gx o2 e sm2 he
          show gName 14 (V.int (0 + (o2 : Int))) _ _ _
          rw [Int.zero_add]
          refine ⟨rfl, .ref g, rfl, .ref p, rfl, .ref q0, rfl, _, rfl, _, rfl, g, p, q0, rs, ps, qs, i, o2, r, e, rfl, g1, g2, g3, hr2, he, by omega, by omega, fun G3 s3 => ?_⟩
          have ee := el_at he
          refine ⟨_, rfl, ?_⟩
          by_cases tg : tight r.1 (cf ps i) (cf qs o2) e = true
          · rw [tg]
            have ne : e ≠ [] := fun z => by rw [z] at tg; unfold tight at tg; rw [pw_no] at tg; cases tg
            have s23 := sm2.trans s3
            refine iteT ⟨.ref b, rfl, _, rfl, b, _, _, _, rfl, rfl, .of (s23 _ _ hb), atI_nat (by rw [List.getElem?_map, hc]; rfl), _, rfl, c, _, _, _, rfl, rfl, (hI.same s23).sq, at_last ne, qt _ _ _ (by rw [ee, tg, if_pos rfl]; rfl) s3 rfl⟩
          · rw [Bool.eq_false_iff.mpr tg]
            exact iteF (qt _ _ _ (by rw [ee, if_neg tg]) s3 rfl)
        · rw [fm_some] at hRR
          rw [a2_eq hRR] at hD
          have hD : IL G2 D ((List.range many).map fun j => if tight r.1 (cf ps i) (cf qs j) (r.2.getD j []) = true then lst (r.2.getD j []) else 0) := hD
          have etr : ((List.range many).map fun j => if tight r.1 (cf ps i) (cf qs j) (r.2.getD j []) = true then lst (r.2.getD j []) else 0) = trow r (cf ps i) qs := by unfold trow; rw [lq]
          rw [etr] at hD
          have rD : Of N Z D := of_new (by rw [hN]; exact fun z => nomatch z) (by rw [hZ]; exact fun z => nomatch z) nD
          refine ⟨N, _, _, rfl, rfl, sm2 _ _ hN, small' (by omega), ?_⟩
          have sp4 : SP N Z G (upd G2 N (.lst (zs ++ [.ref D]))) := (spS sm2).trans spG
          refine ⟨same_over (sG.trans sm2) nN4, _, _, _, _, _, zs ++ [.ref D], ws, rfl, upd_same, by rw [upd_ne NZ.symm]; exact sm2 _ _ hZ, ?_, ?_⟩
          · rw [stE, List.map_append]
            exact A2.snoc ⟨D, rfl, rD, by unfold IL; rw [upd_ne rD.1]; exact hD⟩ (hR.mono fun _ _ z => z.up sp4)
          · rw [stT]
            exact hT.mono fun _ _ z => z.up sp4
      | false =>
        rw [ex] at stE stT
        rw [if_neg (by decide)] at stE stT
        rw [List.append_nil] at stE
        refine iteF ⟨.ref Z, rfl, .inl ⟨rfl, _, .of hZ⟩, _, rfl, (many : Nat), rfl, by omega, by omega, fun D nD => ?_⟩
        rw [Int.toNat_natCast]
        refine lc_fm (walk_range (lo := 0) (n := many)) (List.range many) (fun j => if tight r.1 (cf ps i) (cf qs j) (r.2.getD j []) = true then some (j : Int) else none) (fun _ v n => v = V.int n) (fun _ _ _ _ _ z => z) List.length_range nD (fun _ _ => trivial) (small' (by omega)) (fun i2 x G2 Gx ys o2 ho sm2 hD2 y Qt Qf qt qf => ?_) (fun G2 ys sm2 hD hRR => ?_)
        · obtain ⟨rfl, rfl⟩ := y
          have hlt : i2 < many := by have := (List.getElem?_eq_some_iff.mp ho).1; rw [List.length_range] at this; exact this
          obtain rfl : o2 = i2 := by rw [List.getElem?_range hlt] at ho; exact (Option.some.inj ho).symm
          obtain ⟨e, he⟩ := some_at (xs := r.2) (i := o2) (by omega)
          obtain ⟨g1, g2, g3⟩ := tight_arg Gx o2 e sm2 he
          show gName 14 (V.int (0 + (o2 : Int))) _ _ _
          rw [Int.zero_add]
          refine ⟨rfl, .ref g, rfl, .ref p, rfl, .ref q0, rfl, _, rfl, _, rfl, g, p, q0, rs, ps, qs, i, o2, r, e, rfl, g1, g2, g3, hr2, he, by omega, by omega, fun G3 s3 => ?_⟩
          have ee := el_at he
          refine ⟨_, rfl, ?_⟩
          by_cases tg : tight r.1 (cf ps i) (cf qs o2) e = true
          · rw [tg]
            exact iteT ⟨_, rfl, qt _ _ _ (by rw [ee, tg, if_pos rfl]) s3 rfl⟩
          · rw [Bool.eq_false_iff.mpr tg]
            exact iteF (qf (by rw [ee, if_neg tg]) _ s3)
        · rw [fm_if] at hRR
          rw [a2_eq hRR] at hD
          have etr : ((List.range many).filter fun j => tight r.1 (cf ps i) (cf qs j) (r.2.getD j [])).map (fun (j : Nat) => (j : Int)) = tcol r (cf ps i) qs qs.length := by unfold tcol; rw [lq]
          rw [etr] at hD
          have hD : IL G2 D (tcol r (cf ps i) qs qs.length) := hD
          have rD : Of N Z D := of_new (by rw [hN]; exact fun z => nomatch z) (by rw [hZ]; exact fun z => nomatch z) nD
          refine ⟨Z, _, _, rfl, rfl, sm2 _ _ hZ, small' (by omega), ?_⟩
          have sp4 : SP N Z G (upd G2 Z (.lst (ws ++ [.ref D]))) := (spS sm2).trans spX
          refine ⟨same_over (sG.trans sm2) nZ4, _, _, _, _, _, zs, ws ++ [.ref D], rfl, by rw [upd_ne NZ]; exact sm2 _ _ hN, upd_same, ?_, ?_⟩
          · rw [stE]
            exact hR.mono fun _ _ z => z.up sp4
          · rw [stT, List.map_append]
            exact A2.snoc ⟨D, rfl, rD, by unfold IL; rw [upd_ne rD.2]; exact hD⟩ (hT.mono fun _ _ z => z.up sp4)
    obtain ⟨sG, v9, v10, v11, v14, v15, zs, ws, rfl, hN, hZ, hR, hT⟩ := hP
    have hg0 := hg4.lk (K50.lk sG)
    have hpG := hp.same sG
    have hqG := hq.same sG
    have tbG := tabG_same tb4 sG
    have gE : (exL rs ps qs many).map (fun p => p.2) = (exL rs ps qs many).map (fun p => p.2) := rfl
    have hNd : ∀ G2, Lk G G2 → Dp K G2 (.ref N) (dEls ((exL rs ps qs many).map fun p => p.2)) := fun G2 k => dp_ll (k.lst hN) (hR.mono fun _ _ z => let ⟨a, e, _, i⟩ := z; ⟨a, e, i.lk k⟩)
    have hZd : ∀ G2, Lk G G2 → Dp K G2 (.ref Z) (dEls ((tcL rs ps qs many).map fun p => p.2)) := fun G2 k => dp_ll (k.lst hZ) (hT.mono fun _ _ z => let ⟨a, e, _, i⟩ := z; ⟨a, e, i.lk k⟩)
    have exr := exL_row (rs := rs) (ps := ps) (qs := qs) (many := many)
    have tcr := tcL_row (rs := rs) (ps := ps) (qs := qs) (many := many)
    have exl := exL_len (rs := rs) (ps := ps) (qs := qs) many
    have tcl := tcL_len (rs := rs) (ps := ps) (qs := qs) many
    refine ⟨.ref g, rfl, .ref p, rfl, .ref q0, rfl, g, p, q0, rs, ps, qs, many, rfl, hg0, vg, hmany, hpG.sq, hqG.sq, tbG, fun z => absurd mk z, fun _ H5 L1 ys1 k5 tb5 nL1 hL1 hY1 => ?_⟩
    have k5' := k5.1
    refine ⟨.ref g, rfl, .ref p, rfl, .ref q0, rfl, g, p, q0, rs, ps, qs, many, rfl, hg0.lk k5', vg, hmany, k5'.seqL hpG.sq, k5'.seqL hqG.sq, tb5, fun z => absurd mk z, fun _ H6 L2 ys2 k6 tb6 nL2 hL2 hY2 => ?_⟩
    have k56 := k5.trans k6
    have hL16 := k6.1.lst hL1
    generalize hdA : (exL rs ps qs many).map (fun p => p.2) = dA at hNd hY1 exr
    generalize hdB : (tcL rs ps qs many).map (fun p => p.2) = dB at hZd hY2 tcr
    have ldA : dA.length ≤ 16 := by rw [← hdA, List.length_map]; omega
    have ldB : dB.length ≤ 16 := by rw [← hdB, List.length_map]; omega
    have shA := shaped_dEls dA
    have shB := shaped_dEls dB
    have eqA := SeqAt.eqv_refl _ (SeqAt.canLay_of_shaped shA)
    have eqB := SeqAt.eqv_refl _ (SeqAt.canLay_of_shaped shB)
    have dpA : Dp K H6 (.ref L1) (dEls dA) := dp_ll hL16 (hY1.mono fun _ _ z => let ⟨a, e, _, i⟩ := z; ⟨a, e, i.lk k6.1⟩)
    have dpB : Dp K H6 (.ref L2) (dEls dB) := dp_ll hL2 (hY2.mono fun _ _ z => let ⟨a, e, _, i⟩ := z; ⟨a, e, i⟩)
    refine ⟨.ref L1, rfl, _, _, _, _, true, rfl, .ty "list", .base (.lst hL16), rfl, _, rfl, iteF ?_⟩
    refine ⟨.ref L2, rfl, _, _, _, _, true, rfl, .ty "list", .base (.lst hL2), rfl, _, rfl, iteF ?_⟩
    refine ⟨.ref L1, rfl, .ref N, rfl, dEls dA, dEls dA, dpA, hNd _ k56.1, shA, shA, _, rfl, ?_⟩
    rw [eqA]
    refine iteF ⟨.ref L2, rfl, .ref Z, rfl, dEls dB, dEls dB, dpB, hZd _ k56.1, shB, shB, _, rfl, ?_⟩
    rw [eqB]
    refine iteF ?_
    -- what was told is changed
    refine ⟨.ref L1, rfl, .ref L2, rfl, L1, L2, _, _, rfl, rfl, hL16, hL2, by rw [hY1.len, hY2.len]; exact small (by omega), fun C nC => ?_⟩
    have s8 := same_upd nC (o := .lst (ys1 ++ ys2))
    have hE1 : ∀ v ∈ ys1 ++ ys2, ER G L1 L2 (upd H6 C (.lst (ys1 ++ ys2))) 16 v := by
      intro v hv
      rcases List.mem_append.mp hv with hv | hv
      · obtain ⟨e, he, a1, rfl, ⟨n1, n2⟩, hI⟩ := a2_mem hY1 hv
        exact ⟨a1, e, rfl, n2, ⟨n1, ne_new hI nL2⟩, (hI.lk k6.1).same s8, by have := exr e he; omega⟩
      · obtain ⟨e, he, a1, rfl, ⟨n1, n2⟩, hI⟩ := a2_mem hY2 hv
        exact ⟨a1, e, rfl, k5.2 _ n2, ⟨(fun z => by rw [z, hL1] at n2; cases n2), n1⟩, hI.same s8, by have := tcr e he; omega⟩
    have k8 := k56.1.trans (K50.lk s8)
    have tb8 := tabG_same tb6 s8
    have hC8 := upd_same (H := H6) (a := C) (o := .lst (ys1 ++ ys2))
    have hL18 := s8 _ _ hL16
    have hL28 := s8 _ _ hL2
    have l12 : (ys1 ++ ys2).length ≤ 32 := by rw [List.length_append, hY1.len, hY2.len]; omega
    generalize upd H6 C (.lst (ys1 ++ ys2)) = H8 at hE1 k8 tb8 hC8 hL18 hL28
    refine ⟨C, rfl, ⟨_, .of hC8⟩, ?_⟩
    refine for_it (walk_list (xs := ys1 ++ ys2)) (fun i σ G2 => Lk G G2 ∧ GxR.TabG G2 P2 ∧ G2 C = some (.lst (ys1 ++ ys2)) ∧ G2 L1 = some (.lst ys1) ∧ G2 L2 = some (.lst ys2) ∧ (∀ v ∈ ys1 ++ ys2, ER G L1 L2 G2 (16 + i) v) ∧ ∃ (v9 v10 v11 v14 v15 : Option V), σ = [some (.ref a), some (.ref d), some (.ref g), some (.int (many : Nat)), some (.ref p), some (.ref q0), some (.str kept), some (.ref N), some (.ref Z), v9, v10, v11, some (.ref L1), some (.ref L2), v14, v15]) ⟨k8, tb8, hC8, hL18, hL28, hE1, _, _, _, _, _, rfl⟩ (fun i σ G2 _ hP => .of hP.2.2.1) (fun i x σ G2 Gx hi hP y => ?_) (fun σ G2 hP => ?_)
    · obtain ⟨kG, tG, hC2, hM1, hM2, hE2, v9, v10, v11, v14, v15, rfl⟩ := hP
      obtain ⟨rfl, hxi⟩ := y
      obtain ⟨e, es, rfl, n0e, offe, hI, hlen⟩ := hE2 _ (mem_at hxi)
      refine ⟨.ref e, rfl, _, _, _, _, true, rfl, .ty "list", .base (.lst hI), rfl, _, rfl, iteF ?_⟩
      refine ⟨.ref e, rfl, e, rfl, ⟨_, hI.sq⟩, fun D nD => ?_⟩
      refine lc_fm (walk_list (xs := es.map V.int)) es (fun _ => none) (fun _ v n => v = V.int n) (fun _ _ _ _ _ z => z) (by rw [List.length_map]) nD (fun H' s => s.seq hI.sq) (small' (by rw [List.length_map]; omega)) (fun i2 x G3 Gy ys o2 ho sm2 hD2 y Qt Qf qt qf => ?_) (fun G3 ys sm2 hD hRR => ?_)
      · obtain ⟨rfl, hx2⟩ := y
        obtain ⟨_, rfl⟩ := map_get hx2
        exact ⟨rfl, _, rfl, _, rfl, _, rfl, iteF (qf rfl _ (Same.refl _))⟩
      · rw [fm_nil] at hRR
        have hys : ys = [] := List.length_eq_zero_iff.mp hRR.len
        rw [hys] at hD
        refine ⟨by show 0 ≤ sizeLine; decide, fun l nl => ?_⟩
        have s3 := same_upd nl (o := .lst [])
        refine ⟨dI [], .list [], .lst (.of (s3 _ _ hD)) .nil, .lst (.of upd_same) .nil, shaped_dI [], rfl, _, rfl, ?_⟩
        rw [eqv_nil, decide_eq_true rfl]
        have s23 := sm2.trans s3
        refine iteF ⟨.ref e, rfl, .inl ⟨rfl, _, (hI.same s23).sq⟩, e, _, _, rfl, rfl, hI.same s23, small' (by rw [List.length_map]; omega), ?_⟩
        have Ce : C ≠ e := fun z => by
          rw [z] at hC2
          have e3 : ys1 ++ ys2 = es.map V.int := by have h := Option.some.inj (hC2.symm.trans hI); injection h
          rw [e3] at hxi
          have := (map_get hxi).2
          cases this
        refine ⟨(kG.trans (K50.lk s23)).over n0e, tabG_over (tabG_same tG s23) (hI.same s23), by rw [upd_ne Ce]; exact s23 _ _ hC2, by rw [upd_ne offe.1.symm]; exact s23 _ _ hM1, by rw [upd_ne offe.2.symm]; exact s23 _ _ hM2, fun v hv => ((hE2 v hv).same s23).step hlen, _, _, _, _, _, rfl⟩
    obtain ⟨kG, tG, _, hM1, hM2, _, v9, v10, v11, v14, v15, rfl⟩ := hP
    have L12 : L1 ≠ L2 := ne_new hL1 nL2
    refine ⟨.ref L1, rfl, .inl ⟨rfl, _, .of hM1⟩, L1, _, _, rfl, rfl, hM1, small' (by rw [hY1.len]; omega), ?_⟩
    refine ⟨.ref L2, rfl, .inl ⟨rfl, _, .of (by rw [upd_ne L12.symm]; exact hM2)⟩, L2, _, _, rfl, rfl, by rw [upd_ne L12.symm]; exact hM2, small' (by rw [hY2.len]; omega), ?_⟩
    have k9 := (kG.over (o := .lst (ys1 ++ [.int 1])) nL1).over (o := .lst (ys2 ++ [.int 1])) (k5.2 _ nL2)
    have tb9 : GxR.TabG (upd (upd G2 L1 (.lst (ys1 ++ [.int 1]))) L2 (.lst (ys2 ++ [.int 1]))) P2 := tabG_over (tabG_over tG hM1) (by rw [upd_ne L12.symm]; exact hM2)
    generalize upd (upd G2 L1 (.lst (ys1 ++ [.int 1]))) L2 (.lst (ys2 ++ [.int 1])) = H9 at k9 tb9
    have k49 : Lk H4 H9 := (K50.lk sG).trans k9
    refine ⟨.ref g, rfl, .ref p, rfl, .ref q0, rfl, by show 3 ≤ sizeLine; decide, fun u3 nu3 => ?_⟩
    have s10 := same_upd nu3 (o := .tup [.ref g, .ref p, .ref q0])
    have k10 := k9.trans (K50.lk s10)
    refine ⟨u3, dKe rs ps qs, rfl, dgt _ u3 (k49.trans (K50.lk s10)) upd_same, gD.sh, gd0, gDd, gDl, _, rfl, rfl, _, rfl, ?_⟩
    rw [hkept, decide_eq_true rfl]
    refine iteF ?_
    have tb10 := tabG_same tb9 s10
    refine ⟨.ref g, rfl, .ref p, rfl, .ref q0, rfl, g, p, q0, rs, ps, qs, many, rfl, hg0.lk k10, vg, hmany, k10.seqL hpG.sq, k10.seqL hqG.sq, tb10, fun z => absurd mk z, fun _ HA LA ysA kA tbA nLA hLA hYA => ?_⟩
    rw [hdA] at hYA
    have kA' := k10.trans kA.1
    refine ⟨.ref N, rfl, dEls dA, dEls dA, dp_ll hLA (hYA.mono fun _ _ z => let ⟨a, e, _, i⟩ := z; ⟨a, e, i⟩), hNd _ kA', shA, shA, _, rfl, ?_⟩
    rw [eqA]
    refine iteF ?_
    refine ⟨.ref g, rfl, .ref p, rfl, .ref q0, rfl, g, p, q0, rs, ps, qs, many, rfl, hg0.lk kA', vg, hmany, kA'.seqL hpG.sq, kA'.seqL hqG.sq, tbA, fun z => absurd mk z, fun _ HB LB ysB kB tbB nLB hLB hYB => ?_⟩
    rw [hdB] at hYB
    have kB' := kA'.trans kB.1
    refine ⟨.ref Z, rfl, dEls dB, dEls dB, dp_ll hLB (hYB.mono fun _ _ z => let ⟨a, e, _, i⟩ := z; ⟨a, e, i⟩), hZd _ kB', shB, shB, _, rfl, ?_⟩
    rw [eqB]
    refine iteF ?_
    have kC' := (K50.lk sG).trans kB'
    refine ⟨.ref d, rfl, .ref g, rfl, .ref p, rfl, .ref q0, rfl, d, g, p, q0, ds, rs, ps, qs, many, rfl, hd4.lk kC', hg0.lk kB', vg, hmany, hpG.lk kB', hqG.lk kB', lp, lq, tbB, fun HX kX tbX => ⟨true, rfl, iteT ?_⟩⟩
    have kX' := kC'.trans kX.1
    refine ⟨.ref g, rfl, .ref p, rfl, .ref q0, rfl, by show 3 ≤ sizeLine; decide, fun u4 nu4 => ?_⟩
    have kY := kX'.trans (K50.lk (same_upd nu4 (o := .tup [.ref g, .ref p, .ref q0])))
    refine ⟨u4, dKe rs ps qs, rfl, dgt _ u4 kY upd_same, gD.sh, gd0, gDd, gDl, _, rfl, rfl, ?_⟩
    rw [hkept, decide_eq_true rfl]
    exact q _
end
section
/-- the facts of the text, from what stands behind the top -/
theorem all_mk {l : PySem.W.OpenLaw} {w : World} {K : PySem.W.Frag} {h : Heap} {mg : Str → Option Value} {fa : Addr} (X : K.In h) (G : h.Ns mainGlobals mg) (hfa : mg "law" = some (.ref fa))
    {f0 : Addr} {od0 an0 : Option Addr} {sl0 : Array (Option Value)} {oc0 kV0 dc0 pm0 cd0 ct0 : Value}
    {f1 : Addr} {od1 an1 : Option Addr} {sl1 : Array (Option Value)} {oc1 kV1 dc1 pm1 cd1 ct1 : Value}
    {f2 : Addr} {od2 an2 : Option Addr} {sl2 : Array (Option Value)} {oc2 kV2 dc2 pm2 cd2 ct2 : Value}
    {f3 : Addr} {od3 an3 : Option Addr} {sl3 : Array (Option Value)} {oc3 kV3 dc3 pm3 cd3 ct3 : Value}
    {f4 : Addr} {od4 an4 : Option Addr} {sl4 : Array (Option Value)} {oc4 kV4 dc4 pm4 cd4 ct4 : Value}
    {f5 : Addr} {od5 an5 : Option Addr} {sl5 : Array (Option Value)} {oc5 kV5 dc5 pm5 cd5 ct5 : Value}
    {f6 C6 P6 : Addr} {od6 an6 td6 : Option Addr} {sl6 tl6 : Array (Option Value)} {tv6 : Array Value} {oc6 kV6 dc6 pm6 ct6 te6 : Value}
    {f7 : Addr} {od7 an7 : Option Addr} {sl7 : Array (Option Value)} {oc7 kV7 dc7 pm7 cd7 ct7 : Value}
    {f8 : Addr} {od8 an8 : Option Addr} {sl8 : Array (Option Value)} {oc8 kV8 dc8 pm8 cd8 ct8 : Value}
    {f9 : Addr} {od9 an9 : Option Addr} {sl9 : Array (Option Value)} {oc9 kV9 dc9 pm9 cd9 ct9 : Value}
    {f10 : Addr} {od10 an10 : Option Addr} {sl10 : Array (Option Value)} {oc10 kV10 dc10 pm10 cd10 ct10 : Value}
    {f11 : Addr} {od11 an11 : Option Addr} {sl11 : Array (Option Value)} {oc11 kV11 dc11 pm11 cd11 ct11 : Value}
    {f12 : Addr} {od12 an12 : Option Addr} {sl12 : Array (Option Value)} {oc12 kV12 dc12 pm12 cd12 ct12 : Value}
    {f13 : Addr} {od13 an13 : Option Addr} {sl13 : Array (Option Value)} {oc13 kV13 dc13 pm13 cd13 ct13 : Value}
    {f14 : Addr} {od14 an14 : Option Addr} {sl14 : Array (Option Value)} {oc14 kV14 dc14 pm14 cd14 ct14 : Value}
    {f15 : Addr} {od15 an15 : Option Addr} {sl15 : Array (Option Value)} {oc15 kV15 dc15 pm15 cd15 ct15 : Value}
    {f16 : Addr} {od16 an16 : Option Addr} {sl16 : Array (Option Value)} {oc16 kV16 dc16 pm16 cd16 ct16 : Value}
    {f17 : Addr} {od17 an17 : Option Addr} {sl17 : Array (Option Value)} {oc17 kV17 dc17 pm17 cd17 ct17 : Value}
    {f18 : Addr} {od18 an18 : Option Addr} {sl18 : Array (Option Value)} {oc18 kV18 dc18 pm18 cd18 ct18 : Value}
    {f19 : Addr} {od19 an19 : Option Addr} {sl19 : Array (Option Value)} {oc19 kV19 dc19 pm19 cd19 ct19 : Value}
    {f20 : Addr} {od20 an20 : Option Addr} {sl20 : Array (Option Value)} {oc20 kV20 dc20 pm20 cd20 ct20 : Value}
    {f21 : Addr} {od21 an21 : Option Addr} {sl21 : Array (Option Value)} {oc21 kV21 dc21 pm21 cd21 ct21 : Value}
    {f22 : Addr} {od22 an22 : Option Addr} {sl22 : Array (Option Value)} {oc22 kV22 dc22 pm22 cd22 ct22 : Value}
    {f23 : Addr} {od23 an23 : Option Addr} {sl23 : Array (Option Value)} {oc23 kV23 dc23 pm23 cd23 ct23 : Value}
    {f24 : Addr} {od24 an24 : Option Addr} {sl24 : Array (Option Value)} {oc24 kV24 dc24 pm24 cd24 ct24 : Value}
    {CM fI : Addr} {odI anI : Option Addr} {slI : Array (Option Value)} {ocI kVI dcI pmI cdI ctI : Value}
    {e0_C e0_N : Addr} {e0_nm e0_q e0_nk : Str} {e0_tk : Tok} {e0_bs : List Value} {e0_sn : List Str} {e0_sub : List Value} {e0_ab : Bool} {e0_col : Option Bool} {e0_dd : Option Addr} {e0_m0 e0_m1 e0_m3 e0_m5 : Option Value}
    (a0 : PySem.W.nsIn K mainGlobals "_wording" = some (some (.ref f0))) (l0 : K.lookup f0 = some ⟨oc0, od0, .func (PySem.W.fnOf "_wording" "_wording" (defArgs s_wording) (defBody s_wording) (defScope s_wording) .none kV0 dc0 pm0 an0 cd0 ct0), sl0⟩) (c0 : PySem.W.codeIn K cd0 "_wording" = true) (k0 : PySem.W.keepIn K (.ref f0) = true)
    (a1 : PySem.W.nsIn K mainGlobals "is_exact" = some (some (.ref f1))) (l1 : K.lookup f1 = some ⟨oc1, od1, .func (PySem.W.fnOf "is_exact" "is_exact" (defArgs s_is_exact) (defBody s_is_exact) (defScope s_is_exact) .none kV1 dc1 pm1 an1 cd1 ct1), sl1⟩) (c1 : PySem.W.codeIn K cd1 "is_exact" = true) (k1 : PySem.W.keepIn K (.ref f1) = true)
    (a2 : PySem.W.nsIn K mainGlobals "power_of" = some (some (.ref f2))) (l2 : K.lookup f2 = some ⟨oc2, od2, .func (PySem.W.fnOf "power_of" "power_of" (defArgs s_power_of) (defBody s_power_of) (defScope s_power_of) .none kV2 dc2 pm2 an2 cd2 ct2), sl2⟩) (c2 : PySem.W.codeIn K cd2 "power_of" = true) (k2 : PySem.W.keepIn K (.ref f2) = true)
    (a3 : PySem.W.nsIn K mainGlobals "powers_of" = some (some (.ref f3))) (l3 : K.lookup f3 = some ⟨oc3, od3, .func (PySem.W.fnOf "powers_of" "powers_of" (defArgs s_powers_of) (defBody s_powers_of) (defScope s_powers_of) .none kV3 dc3 pm3 an3 cd3 ct3), sl3⟩) (c3 : PySem.W.codeIn K cd3 "powers_of" = true) (k3 : PySem.W.keepIn K (.ref f3) = true)
    (a4 : PySem.W.nsIn K mainGlobals "_tight_columns" = some (some (.ref f4))) (l4 : K.lookup f4 = some ⟨oc4, od4, .func (PySem.W.fnOf "_tight_columns" "_tight_columns" (defArgs s_tight_columns) (defBody s_tight_columns) (defScope s_tight_columns) .none kV4 dc4 pm4 an4 cd4 ct4), sl4⟩) (c4 : PySem.W.codeIn K cd4 "_tight_columns" = true) (k4 : PySem.W.keepIn K (.ref f4) = true)
    (a5 : PySem.W.nsIn K mainGlobals "tight_frame" = some (some (.ref f5))) (l5 : K.lookup f5 = some ⟨oc5, od5, .func (PySem.W.fnOf "tight_frame" "tight_frame" (defArgs s_tight_frame) (defBody s_tight_frame) (defScope s_tight_frame) .none kV5 dc5 pm5 an5 cd5 ct5), sl5⟩) (c5 : PySem.W.codeIn K cd5 "tight_frame" = true) (k5 : PySem.W.keepIn K (.ref f5) = true)
    (a6 : PySem.W.nsIn K mainGlobals "is_marks" = some (some (.ref f6))) (l6 : K.lookup f6 = some ⟨oc6, od6, .func (PySem.W.fnOf "is_marks" "is_marks" (defArgs s_is_marks) (defBody s_is_marks) (defScope s_is_marks) .none kV6 dc6 pm6 an6 (.ref C6) ct6), sl6⟩) (c6 : PySem.W.codeIn K (.ref C6) "is_marks" = true) (k6 : PySem.W.keepIn K (.ref f6) = true)
    (t6 : K.lookup C6 = some ⟨te6, td6, .fields tv6, tl6⟩) (p6 : tv6[11]? = some (.ref P6)) (n6 : K.lookup P6 = none)
    (a7 : PySem.W.nsIn K mainGlobals "_need_marks" = some (some (.ref f7))) (l7 : K.lookup f7 = some ⟨oc7, od7, .func (PySem.W.fnOf "_need_marks" "_need_marks" (defArgs s_need_marks) (defBody s_need_marks) (defScope s_need_marks) .none kV7 dc7 pm7 an7 cd7 ct7), sl7⟩) (c7 : PySem.W.codeIn K cd7 "_need_marks" = true) (k7 : PySem.W.keepIn K (.ref f7) = true)
    (a8 : PySem.W.nsIn K mainGlobals "tight_numbers" = some (some (.ref f8))) (l8 : K.lookup f8 = some ⟨oc8, od8, .func (PySem.W.fnOf "tight_numbers" "tight_numbers" (defArgs s_tight_numbers) (defBody s_tight_numbers) (defScope s_tight_numbers) .none kV8 dc8 pm8 an8 cd8 ct8), sl8⟩) (c8 : PySem.W.codeIn K cd8 "tight_numbers" = true) (k8 : PySem.W.keepIn K (.ref f8) = true)
    (a9 : PySem.W.nsIn K mainGlobals "tight_places" = some (some (.ref f9))) (l9 : K.lookup f9 = some ⟨oc9, od9, .func (PySem.W.fnOf "tight_places" "tight_places" (defArgs s_tight_places) (defBody s_tight_places) (defScope s_tight_places) .none kV9 dc9 pm9 an9 cd9 ct9), sl9⟩) (c9 : PySem.W.codeIn K cd9 "tight_places" = true) (k9 : PySem.W.keepIn K (.ref f9) = true)
    (a10 : PySem.W.nsIn K mainGlobals "_law_draws" = some (some (.ref f10))) (l10 : K.lookup f10 = some ⟨oc10, od10, .func (PySem.W.fnOf "_law_draws" "_law_draws" (defArgs s_law_draws) (defBody s_law_draws) (defScope s_law_draws) .none kV10 dc10 pm10 an10 cd10 ct10), sl10⟩) (c10 : PySem.W.codeIn K cd10 "_law_draws" = true) (k10 : PySem.W.keepIn K (.ref f10) = true)
    (a11 : PySem.W.nsIn K mainGlobals "_law_mix" = some (some (.ref f11))) (l11 : K.lookup f11 = some ⟨oc11, od11, .func (PySem.W.fnOf "_law_mix" "_law_mix" (defArgs s_law_mix) (defBody s_law_mix) (defScope s_law_mix) .none kV11 dc11 pm11 an11 cd11 ct11), sl11⟩) (c11 : PySem.W.codeIn K cd11 "_law_mix" = true) (k11 : PySem.W.keepIn K (.ref f11) = true)
    (a12 : PySem.W.nsIn K mainGlobals "_law_trimmed" = some (some (.ref f12))) (l12 : K.lookup f12 = some ⟨oc12, od12, .func (PySem.W.fnOf "_law_trimmed" "_law_trimmed" (defArgs s_law_trimmed) (defBody s_law_trimmed) (defScope s_law_trimmed) .none kV12 dc12 pm12 an12 cd12 ct12), sl12⟩) (c12 : PySem.W.codeIn K cd12 "_law_trimmed" = true) (k12 : PySem.W.keepIn K (.ref f12) = true)
    (a13 : PySem.W.nsIn K mainGlobals "_law_number" = some (some (.ref f13))) (l13 : K.lookup f13 = some ⟨oc13, od13, .func (PySem.W.fnOf "_law_number" "_law_number" (defArgs s_law_number) (defBody s_law_number) (defScope s_law_number) .none kV13 dc13 pm13 an13 cd13 ct13), sl13⟩) (c13 : PySem.W.codeIn K cd13 "_law_number" = true) (k13 : PySem.W.keepIn K (.ref f13) = true)
    (a14 : PySem.W.nsIn K mainGlobals "_law_element" = some (some (.ref f14))) (l14 : K.lookup f14 = some ⟨oc14, od14, .func (PySem.W.fnOf "_law_element" "_law_element" (defArgs s_law_element) (defBody s_law_element) (defScope s_law_element) .none kV14 dc14 pm14 an14 cd14 ct14), sl14⟩) (c14 : PySem.W.codeIn K cd14 "_law_element" = true) (k14 : PySem.W.keepIn K (.ref f14) = true)
    (a15 : PySem.W.nsIn K mainGlobals "_law_likely" = some (some (.ref f15))) (l15 : K.lookup f15 = some ⟨oc15, od15, .func (PySem.W.fnOf "_law_likely" "_law_likely" (defArgs s_law_likely) (defBody s_law_likely) (defScope s_law_likely) .none kV15 dc15 pm15 an15 cd15 ct15), sl15⟩) (c15 : PySem.W.codeIn K cd15 "_law_likely" = true) (k15 : PySem.W.keepIn K (.ref f15) = true)
    (a16 : PySem.W.nsIn K mainGlobals "_law_orders" = some (some (.ref f16))) (l16 : K.lookup f16 = some ⟨oc16, od16, .func (PySem.W.fnOf "_law_orders" "_law_orders" (defArgs s_law_orders) (defBody s_law_orders) (defScope s_law_orders) .none kV16 dc16 pm16 an16 cd16 ct16), sl16⟩) (c16 : PySem.W.codeIn K cd16 "_law_orders" = true) (k16 : PySem.W.keepIn K (.ref f16) = true)
    (a17 : PySem.W.nsIn K mainGlobals "_law_grid" = some (some (.ref f17))) (l17 : K.lookup f17 = some ⟨oc17, od17, .func (PySem.W.fnOf "_law_grid" "_law_grid" (defArgs s_law_grid) (defBody s_law_grid) (defScope s_law_grid) .none kV17 dc17 pm17 an17 cd17 ct17), sl17⟩) (c17 : PySem.W.codeIn K cd17 "_law_grid" = true) (k17 : PySem.W.keepIn K (.ref f17) = true)
    (a18 : PySem.W.nsIn K mainGlobals "_law_is_integer" = some (some (.ref f18))) (l18 : K.lookup f18 = some ⟨oc18, od18, .func (PySem.W.fnOf "_law_is_integer" "_law_is_integer" (defArgs s_law_is_integer) (defBody s_law_is_integer) (defScope s_law_is_integer) .none kV18 dc18 pm18 an18 cd18 ct18), sl18⟩) (c18 : PySem.W.codeIn K cd18 "_law_is_integer" = true) (k18 : PySem.W.keepIn K (.ref f18) = true)
    (a19 : PySem.W.nsIn K mainGlobals "_law_power" = some (some (.ref f19))) (l19 : K.lookup f19 = some ⟨oc19, od19, .func (PySem.W.fnOf "_law_power" "_law_power" (defArgs s_law_power) (defBody s_law_power) (defScope s_law_power) .none kV19 dc19 pm19 an19 cd19 ct19), sl19⟩) (c19 : PySem.W.codeIn K cd19 "_law_power" = true) (k19 : PySem.W.keepIn K (.ref f19) = true)
    (a20 : PySem.W.nsIn K mainGlobals "_law_is_tight" = some (some (.ref f20))) (l20 : K.lookup f20 = some ⟨oc20, od20, .func (PySem.W.fnOf "_law_is_tight" "_law_is_tight" (defArgs s_law_is_tight) (defBody s_law_is_tight) (defScope s_law_is_tight) .none kV20 dc20 pm20 an20 cd20 ct20), sl20⟩) (c20 : PySem.W.codeIn K cd20 "_law_is_tight" = true) (k20 : PySem.W.keepIn K (.ref f20) = true)
    (a21 : PySem.W.nsIn K mainGlobals "_law_refused" = some (some (.ref f21))) (l21 : K.lookup f21 = some ⟨oc21, od21, .func (PySem.W.fnOf "_law_refused" "_law_refused" (defArgs s_law_refused) (defBody s_law_refused) (defScope s_law_refused) .none kV21 dc21 pm21 an21 cd21 ct21), sl21⟩) (c21 : PySem.W.codeIn K cd21 "_law_refused" = true) (k21 : PySem.W.keepIn K (.ref f21) = true)
    (a22 : PySem.W.nsIn K mainGlobals "_law_marks" = some (some (.ref f22))) (l22 : K.lookup f22 = some ⟨oc22, od22, .func (PySem.W.fnOf "_law_marks" "_law_marks" (defArgs s_law_marks) (defBody s_law_marks) (defScope s_law_marks) .none kV22 dc22 pm22 an22 cd22 ct22), sl22⟩) (c22 : PySem.W.codeIn K cd22 "_law_marks" = true) (k22 : PySem.W.keepIn K (.ref f22) = true)
    (a23 : PySem.W.nsIn K mainGlobals "_law_bad" = some (some (.ref f23))) (l23 : K.lookup f23 = some ⟨oc23, od23, .func (PySem.W.fnOf "_law_bad" "_law_bad" (defArgs s_law_bad) (defBody s_law_bad) (defScope s_law_bad) .none kV23 dc23 pm23 an23 cd23 ct23), sl23⟩) (c23 : PySem.W.codeIn K cd23 "_law_bad" = true) (k23 : PySem.W.keepIn K (.ref f23) = true)
    (a24 : PySem.W.nsIn K mainGlobals "law" = some (some (.ref f24))) (l24 : K.lookup f24 = some ⟨oc24, od24, .func (PySem.W.fnOf "law" "law" (defArgs s_law) (defBody s_law) (defScope s_law) .none kV24 dc24 pm24 an24 cd24 ct24), sl24⟩) (c24 : PySem.W.codeIn K cd24 "law" = true) (k24 : PySem.W.keepIn K (.ref f24) = true)
    (z_abs : PySem.W.nsIn K mainGlobals "abs" = some none)
    (z_any : PySem.W.nsIn K mainGlobals "any" = some none)
    (z_bool : PySem.W.nsIn K mainGlobals "bool" = some none)
    (z_enumerate : PySem.W.nsIn K mainGlobals "enumerate" = some none)
    (z_int : PySem.W.nsIn K mainGlobals "int" = some none)
    (z_isinstance : PySem.W.nsIn K mainGlobals "isinstance" = some none)
    (z_len : PySem.W.nsIn K mainGlobals "len" = some none)
    (z_list : PySem.W.nsIn K mainGlobals "list" = some none)
    (z_max : PySem.W.nsIn K mainGlobals "max" = some none)
    (z_min : PySem.W.nsIn K mainGlobals "min" = some none)
    (z_range : PySem.W.nsIn K mainGlobals "range" = some none)
    (z_repr : PySem.W.nsIn K mainGlobals "repr" = some none)
    (z_set : PySem.W.nsIn K mainGlobals "set" = some none)
    (z_sorted : PySem.W.nsIn K mainGlobals "sorted" = some none)
    (z_sum : PySem.W.nsIn K mainGlobals "sum" = some none)
    (aM : PySem.W.nsIn K mainGlobals "ModelError" = some (some (.ref CM)))
    (zV : PySem.W.nsIn K mainGlobals "ValueError" = some none)
    (vV : PySem.W.findCls K (.type "ValueError") (.type "type") "__init__" = some (.val (.builtin "ValueError.__init__")))
    (iM : PySem.W.isClsIn K CM = true)
    (tM : PySem.W.typeIn K (.ref CM) = some (.type "type"))
    (bM : PySem.W.subIn K (.ref CM) (.type "BaseException") = some true)
    (iI : PySem.W.findIn K (.ref CM) "__init__" = some (some (.ref fI)))
    (lI : K.lookup fI = some ⟨ocI, odI, .func (PySem.W.fnOf "__init__" "ModelError.__init__" (defArgs s_init) (defBody s_init) (defScope s_init) .none kVI dcI pmI anI cdI ctI), slI⟩)
    (cI : PySem.W.codeIn K cdI "ModelError.__init__" = true)
    (kI : PySem.W.keepIn K (.ref fI) = true)
    (tI : PySem.W.typeIn K (.ref fI) = some (.type "function"))
    (xsp : PySem.W.specialIn K (.builtin "object.__class__") "__get__" = some (some (.builtin "getset_descriptor.__get__")))
    (xtk : PySem.W.takesIn K (.builtin "object.__class__") = some true)
    (e0_a : PySem.W.nsIn K mainGlobals "NotMarks" = some (some (.ref e0_C)))
    (e0_x : K.lookup e0_C = some (excClassObj e0_nm e0_q e0_C e0_N e0_bs [.ref CM, .type "ValueError", .type "Exception", .type "BaseException", .type "object"] true e0_sn e0_sub e0_ab e0_col e0_dd e0_m0 e0_m1 (some (.str e0_nk e0_tk)) e0_m3 e0_m5 "ValueError.__new__"))
    (e0_sz : e0_nk.length ≤ 1000)
    (e0_sa : PySem.W.findIn K (.ref e0_C) "__setattr__" = some (some (.builtin "object.__setattr__")))
    (e0_ga : PySem.W.findIn K (.ref e0_C) "__getattribute__" = some (some (.builtin "BaseException.__getattribute__")))
    (e0_gg : PySem.W.findIn K (.ref e0_C) "__getattr__" = some none)
    (e0_no : PySem.W.findIn K (.ref e0_C) "at" = some none)
    (e0_in : PySem.W.findIn K (.ref e0_C) "__init__" = some (some (.ref fI)))
    (e0_be : PySem.W.subIn K (.ref e0_C) (.type "BaseException") = some true)
    (e0_ty : PySem.W.typeIn K (.ref e0_C) = some (.type "type"))
    (e0_ke : PySem.W.keepIn K (.ref e0_C) = true)
    (e0_hd : PySem.W.hasDictIn K e0_C = true)
    (e0_cl : PySem.W.isClsIn K e0_C = true)
    (e0_at : PySem.W.findIn K (.ref e0_C) "__class__" = some (some (.builtin "object.__class__")))
    (e0_mr : PySem.W.mroIn K e0_C (.type "object") = some true)
    (e0_rd : PySem.W.readsIn K e0_C (.type "type") = true)
    (e0_fc : PySem.W.findCls K (.ref e0_C) (.type "type") "__name__" = some (.get (.builtin "getset_descriptor.__get__") (.builtin "type.__name__") (.ref e0_C) (.type "type")))
    (e0_sM : PySem.W.subIn K (.ref e0_C) (.ref CM) = some true)
    {CF fJ : Addr} {odJ anJ : Option Addr} {slJ : Array (Option Value)} {ocJ kVJ dcJ pmJ cdJ ctJ : Value}
    (aF : PySem.W.nsIn K mainGlobals "Frame" = some (some (.ref CF)))
    (aJ : PySem.W.findIn K (.ref CF) "__init__" = some (some (.ref fJ))) (iJ : PySem.W.isFn K (.ref fJ) = true) (lJ : K.lookup fJ = some ⟨ocJ, odJ, .func (PySem.W.fnOf "__init__" "Frame.__init__" (defArgs s_frame) (defBody s_frame) (defScope s_frame) .none kVJ dcJ pmJ anJ cdJ ctJ), slJ⟩) (cJ : PySem.W.codeIn K cdJ "Frame.__init__" = true) (kJ : PySem.W.keepIn K (.ref fJ) = true)
    (pgF : PySem.W.plainGet K CF Str.empty = true) (hdF : PySem.W.hasDictIn K CF = true) (poF : PySem.W.plainOver K CF = true) (saF : PySem.W.findIn K (.ref CF) "__setattr__" = some (some (.builtin "object.__setattr__"))) (mkF : PySem.W.makesIn K CF = true) (kcF : PySem.W.keepIn K (.ref CF) = true)
    (nF_many : PySem.W.findIn K (.ref CF) "many" = some none)
    (nF_rows : PySem.W.findIn K (.ref CF) "rows" = some none)
    (nF_touched : PySem.W.findIn K (.ref CF) "touched" = some none)
    (nF_bits : PySem.W.findIn K (.ref CF) "bits" = some none)
    (nF_exact : PySem.W.findIn K (.ref CF) "exact" = some none)
    (nF_sized : PySem.W.findIn K (.ref CF) "sized" = some none)
    (bare : ∀ nm ∈ (["is_marks"] : List Str), LG.Bare mg h nm)
    : ∃ (fd : FuncData) (cs : List (Addr × Addr)) (sp : Sp), (∀ p ∈ cs, h.get? p.2 = some { cls := .none, data := .fields #[] }) ∧ (∀ p ∈ cs, K.lookup p.2 = none) ∧ (∀ p ∈ cs, PySem.W.CodeHd h p.1 p.2) ∧ (∀ (s : Shared) (u : Value), BindsTo s fd ⟨[u], []⟩ [("script", u)]) ∧
        (∀ (H : Hp) (a : Addr) (ns : List Int), ns.length ≤ 63 → (∀ p ∈ cs, H p.2 = some (.tbl #[])) → SqL K H a (ns.map V.int) → sp [.ref a] H (fun v _ => v = .bl true) fun _ _ _ => False) ∧
        ∀ base : Heap, K.In base → base.Ns mainGlobals mg → (∀ p ∈ cs, GxR.TabB base mg p.1 p.2) → LG.FnG l.prog w K mg base CX0 8 fa fd ["script"] sp := by
  have b6 : h.get? P6 = some { cls := .none, data := .fields #[] } ∧ PySem.W.CodeHd h C6 P6 := by
    obtain ⟨b, c, Q, o, fd, m1, m2, m3, m4, m5, m6⟩ := bare "is_marks" (by simp)
    cases m1.symm.trans (PySem.W.mg_of X G a6)
    cases m2.symm.trans (X _ _ l6)
    cases m3
    cases m4
    have m5c := m5
    obtain ⟨o2, vs, _, _, _, _, _, _, _, e1, _, e3, e4, _⟩ := m5c
    cases e1.symm.trans (X _ _ t6)
    cases e3
    cases e4.symm.trans p6
    exact ⟨m6, m5⟩
  have e := hfa.symm.trans (PySem.W.mg_of X G a24)
  cases e
  let T : Txt K mg := {
    wording := ⟨_, _, fun_mk (st := s_wording) l0 c0 k0, (fun_mk (st := s_wording) l0 c0 k0).binds (ps := ["name", "at"]) (fun _ _ _ _ _ _ us hl => match us, hl with | [_, _], _ => rfl), PySem.W.mg_of X G a0⟩
    is_exact := ⟨_, _, fun_mk (st := s_is_exact) l1 c1 k1, (fun_mk (st := s_is_exact) l1 c1 k1).binds (ps := ["told"]) (fun _ _ _ _ _ _ us hl => match us, hl with | [_], _ => rfl), PySem.W.mg_of X G a1⟩
    power_of := ⟨_, _, fun_mk (st := s_power_of) l2 c2 k2, (fun_mk (st := s_power_of) l2 c2 k2).binds (ps := ["told", "j"]) (fun _ _ _ _ _ _ us hl => match us, hl with | [_, _], _ => rfl), PySem.W.mg_of X G a2⟩
    powers_of := ⟨_, _, fun_mk (st := s_powers_of) l3 c3 k3, (fun_mk (st := s_powers_of) l3 c3 k3).binds (ps := ["grid"]) (fun _ _ _ _ _ _ us hl => match us, hl with | [_], _ => rfl), PySem.W.mg_of X G a3⟩
    tight_columns := ⟨_, _, fun_mk (st := s_tight_columns) l4 c4 k4, (fun_mk (st := s_tight_columns) l4 c4 k4).binds (ps := ["told", "mark", "q"]) (fun _ _ _ _ _ _ us hl => match us, hl with | [_, _, _], _ => rfl), PySem.W.mg_of X G a4⟩
    tight_frame := ⟨_, _, fun_mk (st := s_tight_frame) l5 c5 k5, (fun_mk (st := s_tight_frame) l5 c5 k5).binds (ps := ["grid", "p", "q"]) (fun _ _ _ _ _ _ us hl => match us, hl with | [_, _, _], _ => rfl), PySem.W.mg_of X G a5⟩
    is_marks := ⟨_, C6, _, ⟨_, _, _, _, _, _, _, _, _, rfl, l6, c6⟩, k6, (fun_mk (st := s_is_marks) l6 c6 k6).binds (ps := ["grid", "p", "q"]) (fun _ _ _ _ _ _ us hl => match us, hl with | [_, _, _], _ => rfl), PySem.W.mg_of X G a6⟩
    need_marks := ⟨_, _, fun_mk (st := s_need_marks) l7 c7 k7, (fun_mk (st := s_need_marks) l7 c7 k7).binds (ps := ["grid", "p", "q"]) (fun _ _ _ _ _ _ us hl => match us, hl with | [_, _, _], _ => rfl), PySem.W.mg_of X G a7⟩
    tight_numbers := ⟨_, _, fun_mk (st := s_tight_numbers) l8 c8 k8, (fun_mk (st := s_tight_numbers) l8 c8 k8).binds (ps := ["grid", "p", "q"]) (fun _ _ _ _ _ _ us hl => match us, hl with | [_, _, _], _ => rfl), PySem.W.mg_of X G a8⟩
    tight_places := ⟨_, _, fun_mk (st := s_tight_places) l9 c9 k9, (fun_mk (st := s_tight_places) l9 c9 k9).binds (ps := ["grid", "p", "q"]) (fun _ _ _ _ _ _ us hl => match us, hl with | [_, _, _], _ => rfl), PySem.W.mg_of X G a9⟩
    law_draws := ⟨_, _, fun_mk (st := s_law_draws) l10 c10 k10, (fun_mk (st := s_law_draws) l10 c10 k10).binds (ps := ["script"]) (fun _ _ _ _ _ _ us hl => match us, hl with | [_], _ => rfl), PySem.W.mg_of X G a10⟩
    law_mix := ⟨_, _, fun_mk (st := s_law_mix) l11 c11 k11, (fun_mk (st := s_law_mix) l11 c11 k11).binds (ps := ["draws", "k", "many"]) (fun _ _ _ _ _ _ us hl => match us, hl with | [_, _, _], _ => rfl), PySem.W.mg_of X G a11⟩
    law_trimmed := ⟨_, _, fun_mk (st := s_law_trimmed) l12 c12 k12, (fun_mk (st := s_law_trimmed) l12 c12 k12).binds (ps := ["numbers"]) (fun _ _ _ _ _ _ us hl => match us, hl with | [_], _ => rfl), PySem.W.mg_of X G a12⟩
    law_number := ⟨_, _, fun_mk (st := s_law_number) l13 c13 k13, (fun_mk (st := s_law_number) l13 c13 k13).binds (ps := ["draws", "k"]) (fun _ _ _ _ _ _ us hl => match us, hl with | [_, _], _ => rfl), PySem.W.mg_of X G a13⟩
    law_element := ⟨_, _, fun_mk (st := s_law_element) l14 c14 k14, (fun_mk (st := s_law_element) l14 c14 k14).binds (ps := ["draws", "k", "shares"]) (fun _ _ _ _ _ _ us hl => match us, hl with | [_, _, _], _ => rfl), PySem.W.mg_of X G a14⟩
    law_likely := ⟨_, _, fun_mk (st := s_law_likely) l15 c15 k15, (fun_mk (st := s_law_likely) l15 c15 k15).binds (ps := ["draws", "k", "row"]) (fun _ _ _ _ _ _ us hl => match us, hl with | [_, _, _], _ => rfl), PySem.W.mg_of X G a15⟩
    law_orders := ⟨_, _, fun_mk (st := s_law_orders) l16 c16 k16, (fun_mk (st := s_law_orders) l16 c16 k16).binds (ps := ["draws", "k", "shares"]) (fun _ _ _ _ _ _ us hl => match us, hl with | [_, _, _], _ => rfl), PySem.W.mg_of X G a16⟩
    law_grid := ⟨_, _, fun_mk (st := s_law_grid) l17 c17 k17, (fun_mk (st := s_law_grid) l17 c17 k17).binds (ps := ["draws", "k", "many"]) (fun _ _ _ _ _ _ us hl => match us, hl with | [_, _, _], _ => rfl), PySem.W.mg_of X G a17⟩
    law_is_integer := ⟨_, _, fun_mk (st := s_law_is_integer) l18 c18 k18, (fun_mk (st := s_law_is_integer) l18 c18 k18).binds (ps := ["actual"]) (fun _ _ _ _ _ _ us hl => match us, hl with | [_], _ => rfl), PySem.W.mg_of X G a18⟩
    law_power := ⟨_, _, fun_mk (st := s_law_power) l19 c19 k19, (fun_mk (st := s_law_power) l19 c19 k19).binds (ps := ["kind", "element"]) (fun _ _ _ _ _ _ us hl => match us, hl with | [_, _], _ => rfl), PySem.W.mg_of X G a19⟩
    law_is_tight := ⟨_, _, fun_mk (st := s_law_is_tight) l20 c20 k20, (fun_mk (st := s_law_is_tight) l20 c20 k20).binds (ps := ["grid", "p", "q", "i", "j"]) (fun _ _ _ _ _ _ us hl => match us, hl with | [_, _, _, _, _], _ => rfl), PySem.W.mg_of X G a20⟩
    law_refused := ⟨_, _, fun_mk (st := s_law_refused) l21 c21 k21, (fun_mk (st := s_law_refused) l21 c21 k21).binds (ps := ["way", "grid", "p", "q"]) (fun _ _ _ _ _ _ us hl => match us, hl with | [_, _, _, _], _ => rfl), PySem.W.mg_of X G a21⟩
    law_marks := ⟨_, _, fun_mk (st := s_law_marks) l22 c22 k22, (fun_mk (st := s_law_marks) l22 c22 k22).binds (ps := ["draws", "grid"]) (fun _ _ _ _ _ _ us hl => match us, hl with | [_, _], _ => rfl), PySem.W.mg_of X G a22⟩
    law_bad := ⟨_, _, fun_mk (st := s_law_bad) l23 c23 k23, (fun_mk (st := s_law_bad) l23 c23 k23).binds (ps := ["draws", "grid", "p", "q"]) (fun _ _ _ _ _ _ us hl => match us, hl with | [_, _, _, _], _ => rfl), PySem.W.mg_of X G a23⟩
    law := ⟨_, _, fun_mk (st := s_law) l24 c24 k24, (fun_mk (st := s_law) l24 c24 k24).binds (ps := ["script"]) (fun _ _ _ _ _ _ us hl => match us, hl with | [_], _ => rfl), PySem.W.mg_of X G a24⟩
    m_abs := PySem.W.mg_none_of X G z_abs
    m_any := PySem.W.mg_none_of X G z_any
    m_bool := PySem.W.mg_none_of X G z_bool
    m_enumerate := PySem.W.mg_none_of X G z_enumerate
    m_int := PySem.W.mg_none_of X G z_int
    m_isinstance := PySem.W.mg_none_of X G z_isinstance
    m_len := PySem.W.mg_none_of X G z_len
    m_list := PySem.W.mg_none_of X G z_list
    m_max := PySem.W.mg_none_of X G z_max
    m_min := PySem.W.mg_none_of X G z_min
    m_range := PySem.W.mg_none_of X G z_range
    m_repr := PySem.W.mg_none_of X G z_repr
    m_set := PySem.W.mg_none_of X G z_set
    m_sorted := PySem.W.mg_none_of X G z_sorted
    m_sum := PySem.W.mg_none_of X G z_sum
  }
  let E : Errs K mg := {
    e0 := ⟨CM, fI, _, fun_mk (st := s_init) lI cI kI, (fun_mk (st := s_init) lI cI kI).binds (ps := ["self", "at"]) (fun _ _ _ _ _ _ us hl => match us, hl with | [_, _], _ => rfl), tI, PySem.W.mg_of X G aM, PySem.W.mg_none_of X G zV, vV⟩
    NotMarks := { C := e0_C, nm := e0_nk, named := ⟨⟨e0_cl, e0_ga, e0_gg, e0_be, e0_at, xsp, xtk, e0_mr⟩, e0_rd, e0_fc, e0_ty, ⟨_, _, e0_x, rfl⟩, e0_sz⟩, oex := ⟨⟨_, _, _, _, _, _, _, _, _, _, _, _, _, _, _, e0_x, LX.refs_one _⟩, e0_sa, e0_be, e0_ty, e0_ke⟩, noAt := e0_no, iC := e0_in, g := PySem.W.mg_of X G e0_a, exm := LX.exm_is bM iM tM e0_sM, kit := LX.kit_self _ _, xf := ⟨e0_ga, e0_gg, e0_be, e0_hd⟩ }
  }
  let Y : Frm K mg := { C := CF, f := fJ, fd := _, F := fun_mk (st := s_frame) lJ cJ kJ, b := (fun_mk (st := s_frame) lJ cJ kJ).binds (ps := ["self", "many", "rows", "touched", "bits"]) (fun _ _ _ _ _ _ us hl => match us, hl with | [_, _, _, _, _], _ => rfl), M := ⟨mkF, aJ, iJ, kcF⟩, cl := ⟨pgF, hdF, poF, saF⟩, n_many := nF_many, n_rows := nF_rows, n_touched := nF_touched, n_bits := nF_bits, n_exact := nF_exact, n_sized := nF_sized, g := PySem.W.mg_of X G aF }
  refine ⟨PySem.W.fnOf "law" "law" (defArgs s_law) (defBody s_law) (defScope s_law) .none kV24 dc24 pm24 an24 cd24 ct24, [(C6, P6)], sp_law K P6, ?_, ?_, ?_, fun s v => .of_eq rfl, fun H a ns hl ht hS => ?_, fun base _ _ tb => ok_law T E Y (tb (C6, P6) (by simp))⟩
  · intro p hp; simp only [List.mem_cons, List.not_mem_nil, or_false] at hp; subst hp
    · exact b6.1
  · intro p hp; simp only [List.mem_cons, List.not_mem_nil, or_false] at hp; subst hp
    · exact n6
  · intro p hp; simp only [List.mem_cons, List.not_mem_nil, or_false] at hp; subst hp
    · exact b6.2
  · exact ⟨a, ns, rfl, hS, hl, ⟨#[], ht (C6, P6) (by simp), trivial⟩, fun _ => rfl⟩
end
end K50

open PySem PySem.W PyProof.Rows in
set_option maxRecDepth 100000 in
set_option maxHeartbeats 0 in
theorem PySem.Challenge.cw_unsaidsizes_k50_tight_numbers_and_places_holds : PySem.Challenge.rw_unsaidsizes_k50_tight_numbers_and_places.Holds := by
  w_on; o_law; k_head; (case hw => w_witness2)
  k_fill
  refine LG.walkGT (l := PySem.Challenge.rw_unsaidsizes_k50_tight_numbers_and_places) (n := 63) (k := 8) (x := "script") ["is_marks"] rfl (by decide) rfl ⟨rfl, by decide, by decide⟩ (by kernel_rfl) (fun w h Y => PySem.W.kIn_of Y) ?F
  case F =>
    intro w mg fa h KX G hmg bare
    refine' K50.all_mk KX G hmg ?a0 ?l0 ?c0 ?k0 ?a1 ?l1 ?c1 ?k1 ?a2 ?l2 ?c2 ?k2 ?a3 ?l3 ?c3 ?k3 ?a4 ?l4 ?c4 ?k4 ?a5 ?l5 ?c5 ?k5 ?a6 ?l6 ?c6 ?k6 ?t6 ?p6 ?n6 ?a7 ?l7 ?c7 ?k7 ?a8 ?l8 ?c8 ?k8 ?a9 ?l9 ?c9 ?k9 ?a10 ?l10 ?c10 ?k10 ?a11 ?l11 ?c11 ?k11 ?a12 ?l12 ?c12 ?k12 ?a13 ?l13 ?c13 ?k13 ?a14 ?l14 ?c14 ?k14 ?a15 ?l15 ?c15 ?k15 ?a16 ?l16 ?c16 ?k16 ?a17 ?l17 ?c17 ?k17 ?a18 ?l18 ?c18 ?k18 ?a19 ?l19 ?c19 ?k19 ?a20 ?l20 ?c20 ?k20 ?a21 ?l21 ?c21 ?k21 ?a22 ?l22 ?c22 ?k22 ?a23 ?l23 ?c23 ?k23 ?a24 ?l24 ?c24 ?k24 ?z_abs ?z_any ?z_bool ?z_enumerate ?z_int ?z_isinstance ?z_len ?z_list ?z_max ?z_min ?z_range ?z_repr ?z_set ?z_sorted ?z_sum ?aM ?zV ?vV ?iM ?tM ?bM ?iI ?lI ?cI ?kI ?tI ?xsp ?xtk ?e0_a ?e0_x ?e0_sz ?e0_sa ?e0_ga ?e0_gg ?e0_no ?e0_in ?e0_be ?e0_ty ?e0_ke ?e0_hd ?e0_cl ?e0_at ?e0_mr ?e0_rd ?e0_fc ?e0_sM ?aF ?aJ ?iJ ?lJ ?cJ ?kJ ?pgF ?hdF ?poF ?saF ?mkF ?kcF ?nF_many ?nF_rows ?nF_touched ?nF_bits ?nF_exact ?nF_sized bare
    (case a0 => k_is)
    (case l0 => k_is)
    (case c0 => k_is)
    (case k0 => k_is)
    (case a1 => k_is)
    (case l1 => k_is)
    (case c1 => k_is)
    (case k1 => k_is)
    (case a2 => k_is)
    (case l2 => k_is)
    (case c2 => k_is)
    (case k2 => k_is)
    (case a3 => k_is)
    (case l3 => k_is)
    (case c3 => k_is)
    (case k3 => k_is)
    (case a4 => k_is)
    (case l4 => k_is)
    (case c4 => k_is)
    (case k4 => k_is)
    (case a5 => k_is)
    (case l5 => k_is)
    (case c5 => k_is)
    (case k5 => k_is)
    (case a6 => k_is)
    (case l6 => k_is)
    (case c6 => k_is)
    (case k6 => k_is)
    (case t6 => k_is)
    (case p6 => rfl)
    (case n6 => first | kernel_rfl | rfl)
    (case a7 => k_is)
    (case l7 => k_is)
    (case c7 => k_is)
    (case k7 => k_is)
    (case a8 => k_is)
    (case l8 => k_is)
    (case c8 => k_is)
    (case k8 => k_is)
    (case a9 => k_is)
    (case l9 => k_is)
    (case c9 => k_is)
    (case k9 => k_is)
    (case a10 => k_is)
    (case l10 => k_is)
    (case c10 => k_is)
    (case k10 => k_is)
    (case a11 => k_is)
    (case l11 => k_is)
    (case c11 => k_is)
    (case k11 => k_is)
    (case a12 => k_is)
    (case l12 => k_is)
    (case c12 => k_is)
    (case k12 => k_is)
    (case a13 => k_is)
    (case l13 => k_is)
    (case c13 => k_is)
    (case k13 => k_is)
    (case a14 => k_is)
    (case l14 => k_is)
    (case c14 => k_is)
    (case k14 => k_is)
    (case a15 => k_is)
    (case l15 => k_is)
    (case c15 => k_is)
    (case k15 => k_is)
    (case a16 => k_is)
    (case l16 => k_is)
    (case c16 => k_is)
    (case k16 => k_is)
    (case a17 => k_is)
    (case l17 => k_is)
    (case c17 => k_is)
    (case k17 => k_is)
    (case a18 => k_is)
    (case l18 => k_is)
    (case c18 => k_is)
    (case k18 => k_is)
    (case a19 => k_is)
    (case l19 => k_is)
    (case c19 => k_is)
    (case k19 => k_is)
    (case a20 => k_is)
    (case l20 => k_is)
    (case c20 => k_is)
    (case k20 => k_is)
    (case a21 => k_is)
    (case l21 => k_is)
    (case c21 => k_is)
    (case k21 => k_is)
    (case a22 => k_is)
    (case l22 => k_is)
    (case c22 => k_is)
    (case k22 => k_is)
    (case a23 => k_is)
    (case l23 => k_is)
    (case c23 => k_is)
    (case k23 => k_is)
    (case a24 => k_is)
    (case l24 => k_is)
    (case c24 => k_is)
    (case k24 => k_is)
    (case z_abs => k_is)
    (case z_any => k_is)
    (case z_bool => k_is)
    (case z_enumerate => k_is)
    (case z_int => k_is)
    (case z_isinstance => k_is)
    (case z_len => k_is)
    (case z_list => k_is)
    (case z_max => k_is)
    (case z_min => k_is)
    (case z_range => k_is)
    (case z_repr => k_is)
    (case z_set => k_is)
    (case z_sorted => k_is)
    (case z_sum => k_is)
    (case aM => k_is)
    (case zV => k_is)
    (case vV => k_is)
    (case iM => k_is)
    (case tM => k_is)
    (case bM => k_is)
    (case iI => k_is)
    (case lI => k_is)
    (case cI => k_is)
    (case kI => k_is)
    (case tI => k_is)
    (case xsp => k_is)
    (case xtk => k_is)
    (case e0_a => k_is)
    (case e0_x => k_is)
    (case e0_sz => decide +kernel)
    (case e0_sa => k_is)
    (case e0_ga => k_is)
    (case e0_gg => k_is)
    (case e0_no => k_is)
    (case e0_in => k_is)
    (case e0_be => k_is)
    (case e0_ty => k_is)
    (case e0_ke => k_is)
    (case e0_hd => k_is)
    (case e0_cl => k_is)
    (case e0_at => k_is)
    (case e0_mr => k_is)
    (case e0_rd => k_is)
    (case e0_fc => k_is)
    (case e0_sM => k_is)
    (case aF => k_is)
    (case aJ => k_is)
    (case iJ => k_is)
    (case lJ => k_is)
    (case cJ => k_is)
    (case kJ => k_is)
    (case pgF => k_is)
    (case hdF => k_is)
    (case poF => k_is)
    (case saF => k_is)
    (case mkF => k_is)
    (case kcF => k_is)
    (case nF_many => k_is)
    (case nF_rows => k_is)
    (case nF_touched => k_is)
    (case nF_bits => k_is)
    (case nF_exact => k_is)
    (case nF_sized => k_is)
