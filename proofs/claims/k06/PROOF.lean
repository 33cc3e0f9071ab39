import PyProof.Rows.All
import Wide.All
import OpenK.AllK
import Wide.FinOn
import PyProof.ReprRoads
import PyProof.StrLawsRepr
import PyProof.FitsInt
import PyProof.StrBlock2
import PyProof.Rows.StrMul
import HandS.Base
import HandS.Call
import HandS.List
import HandS.Comp
import HandS.Ends
import HandS.Iter
import HandS.Wide
import HandS.Words
import HandS.WordsList
import HandS.IsInst
import HandS.TupLe
import HandS.Strs
import HandS.SetBool
import HandS.Deep
import HandS.Walk
import PySem.Challenge.RW_unsaidsizes_k06_tables_of_a_model
set_option Elab.async false
set_option linter.all false
set_option maxRecDepth 100000
set_option maxHeartbeats 4000000
/-! calls under which no text of a list is being made (for repr of lists) -/
namespace LG
open PySem PySem.Spec PyProof.Rows L2
/-- as FnOk, for callers of which it is known that no guard stands -/
structure FnG (P : Program) (w : World) (K : PySem.W.Frag) (mg : Str → Option Value) (base : Heap) (CX : CXT) (k : Nat) (f : Addr) (fd : FuncData) (ps : List Str) (sp : Sp) : Prop where
  len : ∀ vs H Q E, sp vs H Q E → vs.length = ps.length
  run : ∀ (A : Around) (ou : List Env) (s : Shared) (H : Hp) (ar : Args) (us : List Value) (vs : List V) (Q : VK) (E : XK), Room k A → A.guards = some [] → Env0 P w K mg base A ou s H →
    BindsTo s fd ar (ps.zip us) → Vals vs us → sp vs H Q E → codeAny (model P w) A (.call (.ref f) ar) (CR CX ou P w H s Q E) s
section
variable {P : Program} {w : World} {K : PySem.W.Frag} {mg : Str → Option Value} {base : Heap} {CX : CXT} {k : Nat} {f : Addr} {fd : FuncData} {ps : List Str} {sp : Sp}
theorem deeper_guards {A : Around} (e : Env) (h : A.guards = some []) : (A.deeper e).guards = some [] := h
theorem g_of_ok (F : FnOk P w K mg base CX k f fd ps sp) : FnG P w K mg base CX k f fd ps sp := ⟨F.len, fun A ou s H ar us vs Q E hr _ => F.run A ou s H ar us vs Q E hr⟩

/-- a def's body keeps its promise, under known guards -/
theorem fnG_of {nm qu : Str} {pa : Arguments} {bo : List Stmt} {sc : Scope} {dv kv dc pm cd ct oc : Value} {an od : Option Addr} {sl : Array (Option Value)} {N : List Str}
    (hf : K.lookup f = some ⟨oc, od, .func (PySem.W.fnOf nm qu pa bo sc dv kv dc pm an cd ct), sl⟩) (hq : PySem.W.codeIn K cd qu = true) (S : FnScope N ps sc) (ln : ∀ vs H Q E, sp vs H Q E → vs.length = ps.length)
    (hb : ∀ (A : Around) (ou : List Env) (s : Shared) (H : Hp) (vs : List V) (Q : VK) (E : XK), Room k (A.deeper (envOfC qu sc s.heap.objs.size f cd)) → A.guards = some [] → sp vs H Q E →
      ∃ t, PSs (cxOf CX P w K mg base N qu sc f cd A ou s H E) bo t ∧ t { nx := fun _ G => Q .non G, rt := Q } (L2.start N vs) H) :
    FnG P w K mg base CX (k + 1) f (PySem.W.fnOf nm qu pa bo sc dv kv dc pm an cd ct) ps sp := by
  refine ⟨ln, fun A ou s H ar us vs Q E room gd en bd rel want => ?_⟩
  have there : K.In s.heap := en.mod.kin.keeps fun b o z => (en.bs b o z).1
  have nl : s.heap.NoLimit := en.mod.nolimit.keeps fun b o z => (en.bs b o z).1
  refine codeAny_call_function room.depth (there _ _ hf) rfl S.co S.gen rfl (PySem.W.codeRec_of there hq) (bd _ _ _ _ ?_)
  refine wpAny_newFunctionEnv_cells S.kind (fun y hy => ?_) fun env eenv s1 x => ?_
  · obtain ⟨n, v⟩ := y
    exact (S.par n (List.of_mem_zip hy).1).imp id fun q => ⟨q, PySem.W.cellsFrom_some _ _ _ (.inl q)⟩
  subst eenv
  refine ⟨nl.keeps x.toInCall.keep, codeAny_func ?_⟩
  obtain ⟨t, ht, hw⟩ := hb A ou s H vs Q E (room.deeper _) gd want
  have J0 := inv_start (CX := CX) (E := E) S room.hd en (ln _ _ _ _ want) rel x
  refine wpAny_mono (ht.run [] s1 (L2.start N vs) H _ J0 hw) (fun fl s' hs => ?_) fun e s' hs => hs
  cases fl with
  | brk => exact False.elim hs.choose_spec.choose_spec.2
  | cont => exact False.elim hs.choose_spec.choose_spec.2
  | ret u =>
    obtain ⟨v, _, G, J, rv, q⟩ := hs
    exact ⟨v, G, J.os, J.bare, J.base, J.hok, rv, q⟩
  | next =>
    obtain ⟨_, G, J, q⟩ := hs
    exact ⟨V.non, G, J.os, J.bare, J.base, J.hok, rfl, q⟩
/-- .. by the text -/
theorem fun_okG {x qual : Str} {st : Stmt} {N : List Str} (F : Fun K x qual st f fd) (S : FnScope N ps (defScope st)) (ln : ∀ vs H Q E, sp vs H Q E → vs.length = ps.length)
    (hb : ∀ (cd : Value) (A : Around) (ou : List Env) (s : Shared) (H : Hp) (vs : List V) (Q : VK) (E : XK), Room k (A.deeper (envOfC qual (defScope st) s.heap.objs.size f cd)) → A.guards = some [] → sp vs H Q E →
      ∃ t, PSs (cxOf CX0 P w K mg base N qual (defScope st) f cd A ou s H E).nox (defBody st) t ∧ t { nx := fun _ G => Q .non G, rt := Q } (L2.start N vs) H) : FnG P w K mg base CX0 (k + 1) f fd ps sp := by
  obtain ⟨oc, od, kV, doc, pm, an, cd, ct, osl, rfl, lk, hc⟩ := F.ex
  refine fnG_of lk hc S ln fun A ou s H vs Q E hr hg want => ?_
  obtain ⟨t, h, q⟩ := hb cd A ou s H vs Q E hr hg want
  exact ⟨t, h.nox, q⟩
end
section
variable {X : Cx} {CX : CXT} {k : Nat} {f : Addr} {fd : FuncData} {ps : List Str} {sp : Sp} {dvs : List V} {ds : List Value} {E : XK} {x : Str} {p pos : Pos} {e : Expr} {es : List Expr} {t : TA}
theorem pe_callG (F : FnG X.prog X.w X.K X.mg X.base CX k f fd ps sp) (hr : Room k X.A) (gd : X.A.guards = some []) (hg : Gl X x) (hm : X.mg x = some (.ref f)) (hk : PySem.W.keepIn X.K (.ref f) = true) (hb : Binds X.K fd ps ds) (hd : Vals dvs ds) (hx : Passes CX X E)
    (ha : PA X (e :: es) t) (hdb : (x == ("__debug__" : Str)) = false := by decide) (he : starEach (e :: es) X.env = (false, eval e X.env) :: starEach es X.env := by rfl) (hpl : (backTo pos (starEach es X.env)).any (·.1) = false := by rfl) :
    PE X (.Call (.Name x p) (e :: es) [] pos) (tCall sp dvs E t) := by
  refine ⟨fun pins s σ H Q I h => wpAny_Call_Name_kw (ld_glob I hg hm ?_ hdb)⟩
  refine PySem.W.callWith_K (h₀ := X.base) I.ok.mod.kin hk (thn (ha.run pos pins s σ H _ I h) fun us s1 ⟨vs, H1, J, r, q⟩ => ⟨J.kIn, ?_⟩) he hpl
  have r2 : Vals (vs ++ dvs) (us ++ ds) := r.append hd
  have ll : (us ++ ds).length = ps.length := by
    rw [← r2.length]
    exact F.len _ _ _ _ q
  refine wpAny_call (codeAny_mono (F.run X.A X.stack s1 H1 ⟨us, []⟩ (us ++ ds) (vs ++ dvs) Q E hr gd J.env0 (hb s1 us J.kIn ll) r2 q) fun r s' z => ?_)
  cases r with
  | error er => exact hx pins σ H1 s1 er s' J z
  | ok fl =>
    cases fl with
    | ret u => exact J.after z
    | next => exact False.elim z
    | brk => exact False.elim z
    | cont => exact False.elim z
/-- repr of nested data -/
theorem call_reprD (gd : X.A.guards = some []) (hu : X.A.units + 64 < cLine) : CallR X (.builtin "repr") (fun xs H Q => ∃ (a : Addr) (d : PyData), xs = [.ref a] ∧ Dp X.K H (.ref a) d ∧ d.showable = true ∧ d.hasDict = false ∧ d.depth ≤ 60 ∧ d.shown.length ≤ sizeLine ∧ Q (.str d.shown) H) := by
  intro pins s σ H xs us Q I r h
  obtain ⟨a, d, rfl, hd, h1, h2, h3, h4, q⟩ := h
  obtain ⟨u, rfl, e⟩ := vals1 r
  cases (show u = Value.ref a from e)
  obtain ⟨as, rd⟩ := Dp.reads I d (.ref a) (.ref a) hd rfl
  refine PySem.repr_of_reads' rd h1 (fun z => by rw [h2] at z; cases z) gd (by omega) (fun _ _ z => z) (fun h' u tk k => ?_) h4
  exact ⟨.str _, H, I.kept (t' := tk) k, ⟨u, rfl⟩, q⟩
end

/-! the law's own call -/
section
variable {P : Program} {w : World} {K : PySem.W.Frag} {mg mb : Str → Option Value} {k : Nat} {fa a : Addr} {fd : FuncData} {x : Str} {sp : Sp} {s₁ : Shared} {vs : List Value} {ns : List Int}
/-- from one abstract heap, in which the script alone may stand -/
theorem enter (KX : K.In s₁.heap) (gl : s₁.heap.Ns mainGlobals mg) (bl : s₁.heap.Ns builtinsNs mb) (bb : ∀ y : Str, y ≠ "__name__" → mb y = bootBuiltins y) (nl : s₁.heap.NoLimit) (g0 : s₁.gens = #[])
    (at_ : s₁.heap.get? a = some { cls := .type "list", data := .seq vs.toArray }) (room : Room k callerA) (bind : ∀ (s : Shared) (u : Value), BindsTo s fd ⟨[u], []⟩ [(x, u)])
    (F : ∀ base : Heap, K.In base → base.Ns mainGlobals mg → FnG P w K mg base CX0 k fa fd [x] sp) {H : Hp} (only : Only H) (ok : HOk P w H s₁.heap) (alone : ∀ b, H b ≠ none → b = a) (notK : H a ≠ none → K.lookup a = none)
    (want : sp [.ref a] H (fun v _ => v = .bl true) fun _ _ _ => False) :
    codeAny (model P w) callerA (.call (.ref fa) ⟨[.ref a], []⟩) (fun r s' => r = .ok (.ret (.bool true)) ∧ OldK s₁.heap s'.heap ∧ s'.os = s₁.os ∧ AllBare s'.gens) s₁ := by
  have free : ∀ {b : Addr} {o : Obj}, s₁.heap.get? b = some o → (∀ it n, o.data ≠ .seq it n) → H b = none := fun {b o} z nd => by
    cases q : H b with
    | none => rfl
    | some u =>
      obtain rfl := alone b (by rw [q]; exact fun y => nomatch y)
      rw [at_] at z
      cases z
      exact absurd rfl (nd vs.toArray _)
  have nsOf : ∀ {b : Addr} {m : Str → Option Value}, s₁.heap.Ns b m → (hidT s₁.heap H).Ns b m := fun {b m} ⟨o, es, ep, z, d, r⟩ =>
    ⟨o, es, ep, hidT_get z (free z fun it n y => by rw [d] at y; exact nomatch y), d, r⟩
  have inB : K.In (hidT s₁.heap H) := fun b o z => by
    refine hidT_get (KX b o z) ?_
    cases q : H b with
    | none => rfl
    | some u =>
      obtain rfl := alone b (by rw [q]; exact fun y => nomatch y)
      rw [notK (by rw [q]; exact fun y => nomatch y)] at z
      cases z
  have md : Mod K mg (hidT s₁.heap H) := ⟨inB, nsOf gl, ⟨mb, nsOf bl, bb⟩, let ⟨mc, y1, y2⟩ := nl; ⟨mc, nsOf y1, y2⟩⟩
  have en : Env0 P w K mg (hidT s₁.heap H) callerA [] s₁ H := ⟨rfl, md, fun b o z => of_hidT z, Nat.le_of_eq (hidT_size _ _), trivial, fun b z => absurd (show b ∈ ([] : List Addr) from z) (List.not_mem_nil), ok, .of_eq g0⟩
  refine codeAny_mono ((F _ inB (nsOf gl)).run callerA [] s₁ H ⟨[.ref a], []⟩ [.ref a] [.ref a] _ _ room rfl en (bind s₁ (.ref a)) (.cons rfl .nil) want) fun r s' h => ?_
  cases r with
  | error e => exact False.elim h
  | ok fl =>
    cases fl with
    | next => exact False.elim h
    | brk => exact False.elim h
    | cont => exact False.elim h
    | ret u =>
      obtain ⟨v, G, e1, e2, un, okG, rel, q⟩ := h
      obtain rfl : v = V.bl true := q
      obtain rfl : u = Value.bool true := rel
      refine ⟨rfl, OldK.of_keep fun b o z => ?_, e1, e2⟩
      cases q : H b with
      | none => exact un.keep b o z q (fun y => nomatch y) (fun y => nomatch y)
      | some u =>
        rcases only b with y | ⟨ob, xs, y⟩
        · rw [q] at y
          cases y
        · have z1 := (ok b _ y).1
          have z2 := (okG b _ (un.frzs b ob _ y)).1
          rw [z] at z1
          cases z1
          exact z2

theorem enter_all (KX : K.In s₁.heap) (gl : s₁.heap.Ns mainGlobals mg) (bl : s₁.heap.Ns builtinsNs mb) (bb : ∀ y : Str, y ≠ "__name__" → mb y = bootBuiltins y) (nl : s₁.heap.NoLimit) (g0 : s₁.gens = #[])
    (at_ : s₁.heap.get? a = some { cls := .type "list", data := .seq vs.toArray }) (ia : IntsAre vs ns) (small : ns.length ≤ sizeLine) (room : Room k callerA) (bind : ∀ (s : Shared) (u : Value), BindsTo s fd ⟨[u], []⟩ [(x, u)])
    (F : ∀ base : Heap, K.In base → base.Ns mainGlobals mg → FnG P w K mg base CX0 k fa fd [x] sp) (want : ∀ H : Hp, Only H → SqL K H a (ns.map V.int) → sp [.ref a] H (fun v _ => v = .bl true) fun _ _ _ => False) :
    codeAny (model P w) callerA (.call (.ref fa) ⟨[.ref a], []⟩) (fun r s' => r = .ok (.ret (.bool true)) ∧ OldK s₁.heap s'.heap ∧ s'.os = s₁.os ∧ AllBare s'.gens) s₁ := by
  have rel := vals_ints ia
  cases hk : K.lookup a with
  | some o =>
    have z := KX a o hk
    rw [at_] at z
    cases z
    have only : Only (fun _ => none) := fun _ => .inl rfl
    have len := ia.length
    exact enter KX gl bl bb nl g0 at_ room bind F only (fun b u z => by cases z) (fun b z => absurd rfl z) (fun z => absurd rfl z)
      (want _ only (.inr ⟨_, vs.toArray, _, hk, rfl, rfl, rfl, by rw [List.size_toArray, len]; exact small, by simpa using rel⟩))
  | none =>
    let ob : Obj := { cls := .type "list", data := .seq vs.toArray }
    let H : Hp := fun b => if b = a then some (.frz ob (.lst (ns.map V.int))) else none
    have hit : H a = some (.frz ob (.lst (ns.map V.int))) := if_pos rfl
    have one : ∀ b, H b ≠ none → b = a := fun b z => by
      by_cases e : b = a
      · exact e
      · exact absurd (if_neg e) z
    have only : Only H := fun b => by
      by_cases e : b = a
      · exact .inr ⟨ob, ns.map V.int, if_pos e⟩
      · exact .inl (if_neg e)
    refine enter KX gl bl bb nl g0 at_ room bind F only (fun b u z => ?_) one (fun _ => hk) (want H only (.inl (.inr ⟨ob, hit⟩)))
    obtain rfl := one b (by rw [z]; exact fun y => nomatch y)
    rw [hit] at z
    cases z
    exact ⟨at_, by rw [List.length_map]; exact small, vs, _, rel, at_⟩
end
/-- what k_head leaves, from the law's promise -/
theorem walkG {l : PySem.W.OpenLaw} {n k : Nat} {q : Program} {loose : List Str} {XP : (Str → Option Value) → Heap → Prop} {YP : World → Heap → Prop} {d : DefRec} {K : Params → PySem.W.Frag} {sp : PySem.W.Frag → Sp} {x : Str}
    (hn : l.most = some n) (hz : n ≤ sizeLine) (hdf : d.params.defaults = []) (room : Room k callerA) (hY : ∀ (w : World) (h : Heap), YP w h → (K w.params).In h)
    (F : ∀ (w : World) (mg : Str → Option Value) (fa : Addr) (h : Heap), (K w.params).In h → h.Ns mainGlobals mg → mg d.name = some (.ref fa) →
      ∃ fd : FuncData, (∀ (s : Shared) (u : Value), BindsTo s fd ⟨[u], []⟩ [(x, u)]) ∧ ∀ base : Heap, (K w.params).In base → base.Ns mainGlobals mg → FnG l.prog w (K w.params) mg base CX0 k fa fd [x] (sp (K w.params)))
    (want : ∀ (K : PySem.W.Frag) (H : Hp) (a : Addr) (ns : List Int), ns.length ≤ n → Only H → SqL K H a (ns.map V.int) → sp K [.ref a] H (fun v _ => v = .bl true) fun _ _ _ => False) :
    PySem.W.WalkO q loose XP YP l.row.toRowW d [] (fun f vs => PySem.call f vs) := by
  refine Att.attach_call hn hdf fun w s0 s1 mg mb fa o pm cd doc a vs ns G Y ho hd hcd hmg hobj ia len g0 => ?_
  obtain ⟨fd, bi, FF⟩ := F w mg fa _ (hY w _ Y) G.T.g hmg
  exact enter_all (hY w _ Y) G.T.g G.T.b G.T.builtins G.T.nolimit g0 hobj ia (Nat.le_trans len hz) room bi FF fun H only hs => want _ H a ns len only hs
end LG
/-! {e for x in xs if ..} whose members are whole numbers -/
namespace LS
open PySem PySem.Spec PyProof.Rows L2
/-- no member so far -/
abbrev s0 (w : World) (D : Addr) : HO := SetO w D (fun _ => false) 0
/-- k has come in -/
abbrev sP (w : World) (D : Addr) (S : Int → Bool) (n : Nat) (k : Int) : HO := SetO w D (fun j => S j || decide (j = k)) (if S k = true then n else n + 1)
/-- one turn's wish -/
abbrev Step (w : World) (g : TG) (tt : TT) (te : TE) (vs : List Nat) (σ : L2.St) (D : Addr) (Nx : Hp → Prop) (x : V) (Hx : Hp) : Prop :=
  g x (wipe σ vs) Hx fun τ Ha => wipe τ vs = wipe σ vs ∧ tt τ Ha fun b Hb =>
    if b = true then te τ Hb fun y Hc => ∃ (k : Int) (S : Int → Bool) (n : Nat), y = .int k ∧ Hc D = some (SetO w D S n) ∧ n + 1 < scanBound ∧ Nx (upd Hc D (sP w D S n k)) else Nx Hb
/-- all turns -/
abbrev Turns (w : World) (J : It) (g : TG) (tt : TT) (te : TE) (vs : List Nat) (σ : L2.St) (D : Addr) (H1 : Hp) (Qd : Hp → Prop) : Prop :=
  ∃ W : Nat → Nat → Hp → Prop, (∃ m, W 0 m (upd H1 D (s0 w D))) ∧ ∀ i m G, W i m G → (J.stop i G ∧ Qd G) ∨
    (J.go i G ∧ ∃ Nx : Hp → Prop, (∀ G', Nx G' → ∃ m', m' < m ∧ W (i + 1) m' G') ∧ ∀ x Hx, J.yld i G x Hx → Step w g tt te vs σ D Nx x Hx)
def tScI (w : World) (wi : TI) (g : TG) (tt : TT) (te : TE) (vs : List Nat) : TE := fun σ H Q => wi σ H fun J H1 => ∀ D, H1 D = none → Turns w J g tt te vs σ D H1 (Q (.ref D))
section
variable {X : Cx}
theorem pe_scI {elt tg iter : Expr} {ifs : List Expr} {scope : Scope} {own : List (PySem.Str × Nat)} {pos : Pos} {wi : TI} {g : TG} {tt : TT} {te : TE} {w : World} (hw : X.w = w) (calm : X.calm = true) (nd : X.N.Nodup) (hi : PI X tg iter wi) (bk : BlkOk X.N X.env.scope scope own)
    (hg : ∀ (u : Shared) (G : Hp) (C : Addr) (cl : List (PySem.Str × Addr)) (fp : List Addr), PG (X.blk u G scope (compEnvC scope cl C X.env) fp) tg g)
    (ht : ∀ (u : Shared) (G : Hp) (C : Addr) (cl : List (PySem.Str × Addr)) (fp : List Addr), PTs (X.blk u G scope (compEnvC scope cl C X.env) fp) ifs tt)
    (he : ∀ (u : Shared) (G : Hp) (C : Addr) (cl : List (PySem.Str × Addr)) (fp : List Addr), PE (X.blk u G scope (compEnvC scope cl C X.env) fp) elt te)
    (hs : ∀ x, foldedSetIterable iter X.env x = pure x := by intro _; rfl) :
    PE X (.SetComp elt [⟨tg, iter, ifs, 0⟩] scope pos) (tScI w wi g tt te (own.map (·.2))) := by
  subst hw
  refine ⟨fun pins u0 σ H Q I want => ?_⟩
  rw [PpSet.eval_SetComp]
  have cellOf : ∀ y ∈ scope.names, y.2 = .free → ∃ c, X.env.cells.lookup y.1 = some c := fun y hy e => (bk.free y hy e).elim (fun z => I.ok.has _ (.inl z)) (fun z => I.ok.has _ (.inr z))
  refine wpAny_comprehension_free (use := none) rfl hs (closure_ok cellOf) bk.kind (fun y hy e => by rw [bk.uniq y hy, e]) (thn (hi.run pins u0 σ H _ I want) fun xv u1 got => thn got fun itv u2 got2 => ?_)
  obtain ⟨it, fp, tn, J, H2, rfl, I2, T, st2, young, q⟩ := got2
  refine PpSet.newSet_ok (newEnv_comp ?_)
  obtain ⟨D, eD⟩ : ∃ D, D = u2.heap.objs.size := ⟨_, rfl⟩
  rw [← eD]
  have noD : H2 D = none := I2.hok.fresh (Nat.le_of_eq eD.symm)
  obtain ⟨W, ⟨m0, w0⟩, turn⟩ := q D noD
  obtain ⟨u3, e3⟩ : ∃ u3 : Shared, u3 = { u2 with heap := u2.heap.push { cls := .type "set", dict := none, data := .set #[] 0 (.fresh 0 0 (!X.w.params.followText "set-order")) } } := ⟨_, rfl⟩
  rw [← e3]
  obtain ⟨H3, eH⟩ : ∃ H3 : Hp, H3 = upd H2 D (s0 X.w D) := ⟨_, rfl⟩
  rw [← eH] at w0
  have heap3 : u3.heap = u2.heap.push { cls := .type "set", dict := none, data := .set #[] 0 (.fresh 0 0 (!X.w.params.followText "set-order")) } := by rw [e3]
  have I3 : Inv X pins σ H3 u3 := by
    rw [e3, eH]
    refine I2.laid (t' := u2.toks) (fun b o e => Heap.get?_push_of_some _ e) (Nat.le_of_eq eD.symm) ?_
    rw [eD]
    exact setO_new (setR_fresh X.w)
  have young3 : ∀ b ∈ fp, FpOk X pins H3 b ∧ b < u3.heap.objs.size := fun b hb => by
    obtain ⟨o, e, _⟩ := T.obj _ _ st2 b hb
    have lt := Heap.lt_size e
    refine ⟨⟨?_, (young b hb).2⟩, by rw [heap3, Heap.size_push]; exact Nat.lt_succ_of_lt lt⟩
    rw [eH, upd_ne (by rw [eD]; exact Nat.ne_of_lt lt)]
    exact (young b hb).1
  have st3 : tn 0 u3.heap := T.keep _ _ _ st2 fun b _ o e => by rw [heap3]; exact Heap.get?_push_of_some _ e
  have I4 := block_start I3 bk nd young3
  obtain ⟨cl, ecl⟩ : ∃ cl, cl = cellsFrom (u3.heap.objs.size + 1) scope.names (cloFrom X.env.cells scope.names []) := ⟨_, rfl⟩
  rw [← ecl] at I4
  have pg := hg u3 H3 u3.heap.objs.size cl fp
  have pt := ht u3 H3 u3.heap.objs.size cl fp
  have pe := he u3 H3 u3.heap.objs.size cl fp
  show codeAny _ _ (.compStart (.SetComp elt [⟨tg, iter, ifs, 0⟩] scope pos) 0 (.ref it) (.ref D) (compEnvC scope (cellsFrom (u3.heap.objs.size + 1) scope.names (cloFrom X.env.cells scope.names [])) u3.heap.objs.size X.env)) (compPost (model X.prog X.w) X.A X.xe none (EP X pins σ Q) (.ref D) u3.heap.objs.size) { u3 with heap := pushCells (u3.heap.push { cls := .type "dict", data := .dict #[] }) scope.names }
  rw [← ecl]
  obtain ⟨ce, ece⟩ : ∃ ce, ce = compEnvC scope cl u3.heap.objs.size X.env := ⟨_, rfl⟩
  rw [← ece] at I4 pg pt pe ⊢
  have cL : ce.locals = u3.heap.objs.size := by subst ece; rfl
  obtain ⟨u4, e4⟩ : ∃ u4 : Shared, u4 = { u3 with heap := pushCells (u3.heap.push { cls := .type "dict", data := .dict #[] }) scope.names } := ⟨_, rfl⟩
  rw [← e4] at I4 ⊢
  have st4 : tn 0 u4.heap := T.keep _ _ _ st3 fun b _ o e => by rw [e4]; exact pushCells_keeps _ _ _ _ (Heap.get?_push_of_some _ e)
  have still : ∀ {τ : L2.St} {G : Hp} {s' : Shared}, Inv (X.blk u3 H3 scope ce fp) [] τ G s' → (∀ b ∈ fp, G b = none) → ∀ b ∈ fp, FpOk (X.blk u3 H3 scope ce fp) [] G b := fun {τ G s'} J' n b hb =>
    ⟨n b hb, (J'.ok.exf b hb).1, J'.ok.exfs b hb, .inl hb, fun x c e => (J'.ok.exf b hb).2 x c e, fun p hp => absurd (show p ∈ ([] : List (Addr × Obj)) ++ [] from hp) (by simp)⟩
  have all : codeAny (model X.prog X.w) X.A (.compLoop (.SetComp elt [⟨tg, iter, ifs, 0⟩] scope pos) 0 (.ref it) (.ref D) ce)
      (compPost (model X.prog X.w) X.A X.xe none (EP X pins σ Q) (.ref D) u3.heap.objs.size) u4 := by
    refine PpSet.compLoopS_any (fun n s' => ∃ i G, Inv (X.blk u3 H3 scope ce fp) [] (wipe σ (own.map (·.2))) G s' ∧ tn i s'.heap ∧ (∀ b ∈ fp, G b = none) ∧ W i n G) ?_ m0 ⟨0, H3, I4, st4, fun b hb => (young3 b hb).1.1, w0⟩
    rintro n u5 ⟨i, H5, I5, st5, n5, w5⟩
    rcases turn i n H5 w5 with ⟨stop, fine⟩ | ⟨go, Nx, hNx, step⟩
    · refine thnF (T.done (X.blk u3 H3 scope ce fp) rfl rfl rfl calm i [] u5 _ H5 (fun _ _ => False) I5 (still I5 n5) st5 stop) fun r u6 ⟨hr, I6⟩ => ?_
      subst hr
      have I7 : Inv X pins σ H5 u6 := I3.call' (ch := fp) I6.os I6.base I6.hok I6.bare fun b hb =>
        let z := (young3 b hb).1.2
        ⟨z.2.2.1, z.1, z.2.2.2.1, z.2.2.2.2⟩
      have nC : H5 ce.locals = none := I6.free
      rw [cL] at nC
      obtain ⟨m, hn, _⟩ := I6.loc
      have hn : u6.heap.Ns ce.locals m := hn
      rw [cL] at hn
      obtain ⟨f0, f1, f2, f3, f4, f5⟩ := I3.fpOk (Nat.le_refl _) nC
      exact ⟨m, hn, fun h'' sb => ⟨.ref D, H5, I7.turned (t' := u6.toks) (fun b o hb e => (sb.2 b hb).trans e) f0 f1 f3 f4 f5, rfl, fine⟩⟩
    · refine thnF (T.item (X.blk u3 H3 scope ce fp) rfl rfl rfl calm i [] u5 _ H5 (fun _ _ => False) I5 (still I5 n5) st5 go) fun r u6 ⟨v, hr, h6⟩ => ?_
      subst hr
      refine thnF h6 fun _ u7 ⟨x, H7, I7, r7, y7, st7, n7⟩ => ?_
      refine thnF (pg.run _ u7 _ H7 x v _ (I7.pinned (still I7 n7) (T.obj _ _ st7)) r7 (step x H7 y7)) fun _ u8 ⟨τ, H8, I8, hw8, q8⟩ => ?_
      refine thnF (pt.run _ u8 τ H8 _ I8 q8) fun b u9 ⟨H9, I9, q9⟩ => ?_
      have next : ∀ {s' : Shared} {G : Hp}, Inv (X.blk u3 H3 scope ce fp) ([] ++ pinsAt fp u7.heap) τ G s' → Nx G → ∃ m, m < n ∧ ∃ i G, Inv (X.blk u3 H3 scope ce fp) [] (wipe σ (own.map (·.2))) G s' ∧ tn i s'.heap ∧ (∀ b ∈ fp, G b = none) ∧ W i m G := fun {s' G} J' nx => by
        obtain ⟨m', lt, w'⟩ := hNx G nx
        have held : ∀ b ∈ fp, ∀ o, u7.heap.get? b = some o → s'.heap.get? b = some o ∧ G b = none := fun b hb o e =>
          let z := J'.pin (b, o) (List.mem_append_right _ (List.mem_append_right _ (mem_pinsAt hb e)))
          ⟨z.1, z.2.1⟩
        refine ⟨m', lt, i + 1, G, (J'.unpinned (pins := [])).weak (by rw [← hw8, wipe_length]) (fun j v e => ?_), T.keep _ _ _ st7 fun b hb o e => (held b hb o e).1, fun b hb => ?_, w'⟩
        · rw [← hw8] at e
          exact (wipe_some e).1
        · obtain ⟨o, e, _⟩ := T.obj _ _ st7 b hb
          exact (held b hb o e).2
      cases b with
      | false =>
        simp only [Bool.false_eq_true, if_false] at q9 ⊢
        exact next I9 q9
      | true =>
        simp only [if_true] at q9 ⊢
        refine thnF (pe.run _ u9 τ H9 _ I9 q9) fun z u10 ⟨yv, H10, I10, r10, k, S, c, ey, hD, room, nx⟩ => ?_
        subst ey
        refine thnF (mt_sadd (X := X.blk u3 H3 scope ce fp) _ u10 τ H10 (.ref D) [.int k] (.ref D) [z] (fun _ G => Nx G) I10 rfl (.cons r10 .nil) ⟨D, k, S, c, rfl, rfl, hD, room, nx⟩) fun _ u11 ⟨_, G, I11, _, q11⟩ => next I11 q11
  exact PpSet.codeAny_compStart_set all (T.self X.A 0 _ _ _ st4 all)
end
/-- over a list that stands still -/
theorem sc_list {w : World} {K : PySem.W.Frag} {a : Addr} {xs : List V} {g : TG} {tt : TT} {te : TE} {vs : List Nat} {σ : L2.St} {H1 : Hp} {D : Addr} {Qd : Hp → Prop} (Pv : Nat → Hp → Prop) (h0 : Pv 0 (upd H1 D (s0 w D)))
    (hl : ∀ i G, i ≤ xs.length → Pv i G → SqL K G a xs) (hs : ∀ i x G, xs[i]? = some x → Pv i G → Step w g tt te vs σ D (Pv (i + 1)) x G) (hd : ∀ G, Pv xs.length G → Qd G) : Turns w (Itl K a) g tt te vs σ D H1 Qd := by
  refine ⟨fun i m G => m + i = xs.length ∧ Pv i G, ⟨xs.length, rfl, h0⟩, fun i m G ⟨e, p⟩ => ?_⟩
  have le : i ≤ xs.length := by omega
  have sq := hl i G le p
  rcases Nat.lt_or_ge i xs.length with lt | ge
  · refine .inr ⟨⟨xs, xs[i], sq, by simp [lt]⟩, Pv (i + 1), fun G' p' => ⟨m - 1, by omega, by omega, p'⟩, fun x Hx y => ?_⟩
    obtain ⟨rfl, y⟩ := y
    exact hs i x _ (y xs sq) p
  · obtain rfl : i = xs.length := by omega
    exact .inl ⟨⟨xs, sq, Nat.le_refl _⟩, hd G p⟩
end LS
namespace K06
open PySem PySem.Spec PyProof.Rows L2
-- B6
def topS (i : Nat) : Stmt := PySem.Challenge.pw_unsaidsizes_k06_tables_of_a_model.main.body.getD i (.Pass ⟨0, 0, 0, 0⟩)
abbrev s_is_exact : Stmt := topS 1
theorem sc_is_exact : FnScope ["told"] ["told"] (defScope s_is_exact) := ⟨rfl, rfl, rfl, by decide +kernel, rfl, by decide +kernel, by decide +kernel⟩
abbrev s_terms_of : Stmt := topS 2
theorem sc_terms_of : FnScope ["told"] ["told"] (defScope s_terms_of) := ⟨rfl, rfl, rfl, by decide +kernel, rfl, by decide +kernel, by decide +kernel⟩
abbrev s_sizes_in : Stmt := topS 3
theorem sc_sizes_in : FnScope ["told", "size", "_"] ["told"] (defScope s_sizes_in) := ⟨rfl, rfl, rfl, by decide +kernel, rfl, by decide +kernel, by decide +kernel⟩
abbrev s_places_of : Stmt := topS 4
theorem sc_places_of : FnScope ["told", "places", "_", "k", "j"] ["told"] (defScope s_places_of) := ⟨rfl, rfl, rfl, by decide +kernel, rfl, by decide +kernel, by decide +kernel⟩
abbrev s_powers_in : Stmt := topS 6
theorem sc_powers_in : FnScope ["told", "many", "row", "k", "j"] ["told", "many"] (defScope s_powers_in) := ⟨rfl, rfl, rfl, by decide +kernel, rfl, by decide +kernel, by decide +kernel⟩
abbrev s_powers : Stmt := topS 7
theorem sc_powers : FnScope ["model", "quantities", "laws", "told"] ["model"] (defScope s_powers) := ⟨rfl, rfl, rfl, by decide +kernel, rfl, by decide +kernel, by decide +kernel⟩
abbrev s_exact_row : Stmt := topS 8
theorem sc_exact_row : FnScope ["told", "many", "row", "number", "k", "j", "one", "_"] ["told", "many"] (defScope s_exact_row) := ⟨rfl, rfl, rfl, by decide +kernel, rfl, by decide +kernel, by decide +kernel⟩
abbrev s_exact_table : Stmt := topS 9
theorem sc_exact_table : FnScope ["model", "quantities", "laws", "told"] ["model"] (defScope s_exact_table) := ⟨rfl, rfl, rfl, by decide +kernel, rfl, by decide +kernel, by decide +kernel⟩
abbrev s_meetings : Stmt := topS 10
theorem sc_meetings : FnScope ["model", "_", "laws", "told", "j"] ["model"] (defScope s_meetings) := ⟨rfl, rfl, rfl, by decide +kernel, rfl, by decide +kernel, by decide +kernel⟩
abbrev s_exact_laws : Stmt := topS 11
theorem sc_exact_laws : FnScope ["model", "_", "laws", "i", "told"] ["model"] (defScope s_exact_laws) := ⟨rfl, rfl, rfl, by decide +kernel, rfl, by decide +kernel, by decide +kernel⟩
abbrev s_sized_laws : Stmt := topS 12
theorem sc_sized_laws : FnScope ["model", "_", "laws", "i", "told"] ["model"] (defScope s_sized_laws) := ⟨rfl, rfl, rfl, by decide +kernel, rfl, by decide +kernel, by decide +kernel⟩
abbrev s_sizes_of : Stmt := topS 13
theorem sc_sizes_of : FnScope ["model", "_", "laws", "told", "size"] ["model"] (defScope s_sizes_of) := ⟨rfl, rfl, rfl, by decide +kernel, rfl, by decide +kernel, by decide +kernel⟩
abbrev s_law_draws : Stmt := topS 15
theorem sc_law_draws : FnScope ["script", "draws", "k", "rest", "turn", "mixed"] ["script"] (defScope s_law_draws) := ⟨rfl, rfl, rfl, by decide +kernel, rfl, by decide +kernel, by decide +kernel⟩
abbrev s_law_at : Stmt := topS 16
theorem sc_law_at : FnScope ["draws", "k", "many"] ["draws", "k", "many"] (defScope s_law_at) := ⟨rfl, rfl, rfl, by decide +kernel, rfl, by decide +kernel, by decide +kernel⟩
abbrev s_law_name : Stmt := topS 17
theorem sc_law_name : FnScope ["draws", "k", "cell", "letters", "word"] ["draws", "k"] (defScope s_law_name) := ⟨rfl, rfl, rfl, by decide +kernel, rfl, by decide +kernel, by decide +kernel⟩
abbrev s_law_quantities : Stmt := topS 18
theorem sc_law_quantities : FnScope ["draws", "k", "many", "names", "turn", "name"] ["draws", "k", "many"] (defScope s_law_quantities) := ⟨rfl, rfl, rfl, by decide +kernel, rfl, by decide +kernel, by decide +kernel⟩
abbrev s_law_places : Stmt := topS 19
theorem sc_law_places : FnScope ["draws", "k", "many", "size", "places", "turn", "cell", "place"] ["draws", "k", "many", "size"] (defScope s_law_places) := ⟨rfl, rfl, rfl, by decide +kernel, rfl, by decide +kernel, by decide +kernel⟩
abbrev s_law_one : Stmt := topS 20
theorem sc_law_one : FnScope ["draws", "k", "many", "number", "source", "size", "places", "terms", "turn", "cell", "value"] ["draws", "k", "many", "number"] (defScope s_law_one) := ⟨rfl, rfl, rfl, by decide +kernel, rfl, by decide +kernel, by decide +kernel⟩
abbrev s_law_long : Stmt := topS 21
theorem sc_law_long : FnScope ["draws", "first", "many", "size", "places", "terms", "t"] ["draws", "first", "many"] (defScope s_law_long) := ⟨rfl, rfl, rfl, by decide +kernel, rfl, by decide +kernel, by decide +kernel⟩
abbrev s_law_model : Stmt := topS 22
theorem sc_law_model : FnScope ["draws", "first", "many", "laws", "quantities", "rows", "i"] ["draws", "first"] (defScope s_law_model) := ⟨rfl, rfl, rfl, by decide +kernel, rfl, by decide +kernel, by decide +kernel⟩
abbrev s_law_places_of : Stmt := topS 23
theorem sc_law_places_of : FnScope ["law", "number", "k", "j", "size"] ["law"] (defScope s_law_places_of) := ⟨rfl, rfl, rfl, by decide +kernel, rfl, by decide +kernel, by decide +kernel⟩
abbrev s_law_powers : Stmt := topS 24
theorem sc_law_powers : FnScope ["model", "rows", "law", "row", "k", "j", "name"] ["model"] (defScope s_law_powers) := ⟨rfl, rfl, rfl, by decide +kernel, rfl, by decide +kernel, by decide +kernel⟩
abbrev s_law_table : Stmt := topS 25
theorem sc_law_table : FnScope ["model", "rows", "law", "row", "quantity", "element", "number", "k", "j"] ["model"] (defScope s_law_table) := ⟨rfl, rfl, rfl, by decide +kernel, rfl, by decide +kernel, by decide +kernel⟩
abbrev s_law_meetings : Stmt := topS 26
theorem sc_law_meetings : FnScope ["model", "rows", "law", "j", "place"] ["model"] (defScope s_law_meetings) := ⟨rfl, rfl, rfl, by decide +kernel, rfl, by decide +kernel, by decide +kernel⟩
abbrev s_law_told : Stmt := topS 27
theorem sc_law_told : FnScope ["model"] ["model"] (defScope s_law_told) := ⟨rfl, rfl, rfl, by decide +kernel, rfl, by decide +kernel, by decide +kernel⟩
abbrev s_law : Stmt := topS 28
theorem sc_law : FnScope ["script", "draws", "model", "kept", "law", "kinds", "due", "sizes", "told", "each", "row", "element", "i", "term"] ["script"] (defScope s_law) := ⟨rfl, rfl, rfl, by decide +kernel, rfl, by decide +kernel, by decide +kernel⟩
/-- a def as it stands behind the top -/
structure Def (K : PySem.W.Frag) (mg : Str → Option Value) (x : Str) (st : Stmt) (ps : List Str) where
  a : Addr
  fd : FuncData
  F : Fun K x x st a fd
  b : Binds K fd ps []
  g : mg x = some (.ref a)
structure Txt (K : PySem.W.Frag) (mg : Str → Option Value) where
  is_exact : Def K mg "is_exact" s_is_exact ["told"]
  terms_of : Def K mg "terms_of" s_terms_of ["told"]
  sizes_in : Def K mg "sizes_in" s_sizes_in ["told"]
  places_of : Def K mg "places_of" s_places_of ["told"]
  powers_in : Def K mg "_powers_in" s_powers_in ["told", "many"]
  powers : Def K mg "powers" s_powers ["model"]
  exact_row : Def K mg "_exact_row" s_exact_row ["told", "many"]
  exact_table : Def K mg "exact_table" s_exact_table ["model"]
  meetings : Def K mg "meetings" s_meetings ["model"]
  exact_laws : Def K mg "exact_laws" s_exact_laws ["model"]
  sized_laws : Def K mg "sized_laws" s_sized_laws ["model"]
  sizes_of : Def K mg "sizes_of" s_sizes_of ["model"]
  law_draws : Def K mg "_law_draws" s_law_draws ["script"]
  law_at : Def K mg "_law_at" s_law_at ["draws", "k", "many"]
  law_name : Def K mg "_law_name" s_law_name ["draws", "k"]
  law_quantities : Def K mg "_law_quantities" s_law_quantities ["draws", "k", "many"]
  law_places : Def K mg "_law_places" s_law_places ["draws", "k", "many", "size"]
  law_one : Def K mg "_law_one" s_law_one ["draws", "k", "many", "number"]
  law_long : Def K mg "_law_long" s_law_long ["draws", "first", "many"]
  law_model : Def K mg "_law_model" s_law_model ["draws", "first"]
  law_places_of : Def K mg "_law_places_of" s_law_places_of ["law"]
  law_powers : Def K mg "_law_powers" s_law_powers ["model"]
  law_table : Def K mg "_law_table" s_law_table ["model"]
  law_meetings : Def K mg "_law_meetings" s_law_meetings ["model"]
  law_told : Def K mg "_law_told" s_law_told ["model"]
  law : Def K mg "law" s_law ["script"]
  m_abs : mg "abs" = none
  m_all : mg "all" = none
  m_enumerate : mg "enumerate" = none
  m_int : mg "int" = none
  m_isinstance : mg "isinstance" = none
  m_len : mg "len" = none
  m_list : mg "list" = none
  m_min : mg "min" = none
  m_range : mg "range" = none
  m_repr : mg "repr" = none
  m_sorted : mg "sorted" = none
  m_str : mg "str" = none


/-! ### words -/
theorem same_upd {H : Hp} {p : Addr} {o : HO} (h : H p = none) : Same H (upd H p o) := fun b x e => by
  rw [upd_ne (ne_of_none e h)]
  exact e
theorem same_over {H H' : Hp} {p : Addr} {o : HO} (s : Same H H') (h : H p = none) : Same H (upd H' p o) := fun b x e => by
  rw [upd_ne (ne_of_none e h)]
  exact s _ _ e
theorem Same.seqT {K : PySem.W.Frag} {H H' : Hp} {a : Addr} {xs : List V} (e : Same H H') (h : SqT K H a xs) : SqT K H' a xs := by
  rcases h with (h | ⟨o, h⟩) | h
  · exact .inl (.inl (e _ _ h))
  · exact .inl (.inr ⟨o, e _ _ h⟩)
  · exact .inr h
/-- two lists in step -/
inductive A2 {α β : Type} (R : α → β → Prop) : List α → List β → Prop
  | nil : A2 R [] []
  | cons {a b as bs} : R a b → A2 R as bs → A2 R (a :: as) (b :: bs)
namespace A2
variable {α β γ : Type} {R S : α → β → Prop} {as : List α} {bs : List β}
theorem mono (f : ∀ a b, R a b → S a b) : ∀ {as : List α} {bs : List β}, A2 R as bs → A2 S as bs
  | _, _, .nil => .nil
  | _, _, .cons h t => .cons (f _ _ h) (mono f t)
theorem len : ∀ {as : List α} {bs : List β}, A2 R as bs → as.length = bs.length
  | _, _, .nil => rfl
  | _, _, .cons _ t => by rw [List.length_cons, List.length_cons, len t]
theorem get : ∀ {as : List α} {bs : List β}, A2 R as bs → ∀ {i : Nat} {a : α}, as[i]? = some a → ∃ b, bs[i]? = some b ∧ R a b
  | _, _, .nil, i, a, h => by simp at h
  | _, _, .cons h t, 0, a, e => by simp at e; subst e; exact ⟨_, rfl, h⟩
  | _, _, .cons h t, i + 1, a, e => get t (i := i) (by simpa using e)
theorem get' : ∀ {as : List α} {bs : List β}, A2 R as bs → ∀ {i : Nat} {b : β}, bs[i]? = some b → ∃ a, as[i]? = some a ∧ R a b
  | _, _, .nil, i, a, h => by simp at h
  | _, _, .cons h t, 0, a, e => by simp at e; subst e; exact ⟨_, rfl, h⟩
  | _, _, .cons h t, i + 1, a, e => get' t (i := i) (by simpa using e)
theorem snoc {a : α} {b : β} (h : R a b) : ∀ {as : List α} {bs : List β}, A2 R as bs → A2 R (as ++ [a]) (bs ++ [b])
  | _, _, .nil => .cons h .nil
  | _, _, .cons x t => .cons x (snoc h t)
theorem mem : ∀ {as : List α} {bs : List β}, A2 R as bs → ∀ a ∈ as, ∃ b ∈ bs, R a b
  | _, _, .cons h t, a, m => by
    rcases List.mem_cons.mp m with rfl | m
    · exact ⟨_, List.mem_cons_self, h⟩
    · obtain ⟨b, hb, r⟩ := mem t a m
      exact ⟨b, List.mem_cons_of_mem _ hb, r⟩
theorem of_map {f : β → α} (h : ∀ b, b ∈ bs → R (f b) b) : A2 R (bs.map f) bs := by
  induction bs with
  | nil => exact .nil
  | cons b r ih => exact .cons (h b List.mem_cons_self) (ih fun c hc => h c (List.mem_cons_of_mem _ hc))
end A2
theorem take_snoc {α : Type} {xs : List α} {i : Nat} {x : α} (h : xs[i]? = some x) : xs.take (i + 1) = xs.take i ++ [x] := by
  rw [List.take_add_one, h]; rfl
/-- a list of ints stands at a -/
def IL (H : Hp) (a : Addr) (ns : List Int) : Prop := H a = some (.lst (ns.map V.int))
theorem IL.sq {K : PySem.W.Frag} {H : Hp} {a : Addr} {ns : List Int} (h : IL H a ns) : SqL K H a (ns.map V.int) := SqL.of h
theorem IL.same {H H' : Hp} {a : Addr} {ns : List Int} (h : IL H a ns) (s : Same H H') : IL H' a ns := s _ _ h
theorem il_upd {H : Hp} {p : Addr} {ns : List Int} : IL (upd H p (.lst (ns.map V.int))) p ns := upd_same
theorem app_ints {ds : List Int} {x : Int} : ds.map V.int ++ [V.int x] = (ds ++ [x]).map V.int := by rw [List.map_append]; rfl
theorem small {n : Nat} (h : n ≤ 60000) : n ≤ sizeLine := Nat.le_trans h (by decide)
theorem small' {n : Nat} (h : n < 60000) : n < sizeLine := Nat.lt_of_lt_of_le h (by decide)

/-! ### a model -/
abbrev Hd := Int ⊕ Str
def vH : Hd → V
  | .inl n => .int n
  | .inr s => .str s
def dH : Hd → PyData
  | .inl n => .int n
  | .inr s => .str s
structure Trm where
  h : Hd
  k : Nat
  j : Nat
structure Lw where
  ex : Bool
  k : Nat
  j : Nat
  ts : List Trm
  src : Str
structure Mdl where
  qs : List Str
  ls : List Lw
section
variable (K : PySem.W.Frag)
def TmV (H : Hp) (v : V) (t : Trm) : Prop := ∃ a, v = .ref a ∧ SqT K H a [vH t.h, .int (t.k : Nat), .int (t.j : Nat)]
def TsL (H : Hp) (p : Addr) (ts : List Trm) : Prop := ∃ xs, SqL K H p xs ∧ A2 (TmV K H) xs ts
def LW (H : Hp) (v : V) (l : Lw) : Prop := ∃ a p, v = .ref a ∧ TsL K H p l.ts ∧
  (l.ex = true ∧ SqT K H a [.str "exact", .ref p, .str l.src] ∨ l.ex = false ∧ SqT K H a [.str "sized", .int (l.k : Nat), .int (l.j : Nat), .ref p, .str l.src])
/-- p is the list of the law's terms -/
def LWp (H : Hp) (v : V) (l : Lw) (p : Addr) : Prop := ∃ a, v = .ref a ∧
  (l.ex = true ∧ SqT K H a [.str "exact", .ref p, .str l.src] ∨ l.ex = false ∧ SqT K H a [.str "sized", .int (l.k : Nat), .int (l.j : Nat), .ref p, .str l.src])
def MD (H : Hp) (v : V) (m : Mdl) : Prop := ∃ a q r xs, v = .ref a ∧ SqT K H a [.ref q, .ref r] ∧ SqL K H q (m.qs.map V.str) ∧ SqL K H r xs ∧ A2 (LW K H) xs m.ls
/-- a list of places -/
def PT2 (H : Hp) (v : V) (p : Nat × Nat) : Prop := ∃ a, v = .ref a ∧ SqT K H a [.int (p.1 : Nat), .int (p.2 : Nat)]
def PL (H : Hp) (a : Addr) (ps : List (Nat × Nat)) : Prop := ∃ xs, H a = some (.lst xs) ∧ A2 (PT2 K H) xs ps
end
section
variable {K : PySem.W.Frag} {H H' : Hp}
theorem TmV.same (s : Same H H') {v : V} {t : Trm} (h : TmV K H v t) : TmV K H' v t := let ⟨a, e, q⟩ := h; ⟨a, e, Same.seqT s q⟩
theorem TsL.same (s : Same H H') {p : Addr} {ts : List Trm} (h : TsL K H p ts) : TsL K H' p ts := let ⟨xs, q, r⟩ := h; ⟨xs, s.seq q, r.mono fun _ _ z => z.same s⟩
theorem LW.same (s : Same H H') {v : V} {l : Lw} (h : LW K H v l) : LW K H' v l := by
  obtain ⟨a, p, e, q, r⟩ := h
  exact ⟨a, p, e, q.same s, r.imp (fun z => ⟨z.1, Same.seqT s z.2⟩) fun z => ⟨z.1, Same.seqT s z.2⟩⟩
theorem LWp.same (s : Same H H') {v : V} {l : Lw} {p : Addr} (h : LWp K H v l p) : LWp K H' v l p := let ⟨a, e, r⟩ := h; ⟨a, e, r.imp (fun z => ⟨z.1, Same.seqT s z.2⟩) fun z => ⟨z.1, Same.seqT s z.2⟩⟩
theorem LW.p {v : V} {l : Lw} (h : LW K H v l) : ∃ p, LWp K H v l p ∧ TsL K H p l.ts := let ⟨a, p, e, q, r⟩ := h; ⟨p, ⟨a, e, r⟩, q⟩
theorem MD.same (s : Same H H') {v : V} {m : Mdl} (h : MD K H v m) : MD K H' v m := by
  obtain ⟨a, q, r, xs, e, h1, h2, h3, h4⟩ := h
  exact ⟨a, q, r, xs, e, Same.seqT s h1, s.seq h2, s.seq h3, h4.mono fun _ _ z => z.same s⟩
theorem PT2.same (s : Same H H') {v : V} {p : Nat × Nat} (h : PT2 K H v p) : PT2 K H' v p := let ⟨a, e, q⟩ := h; ⟨a, e, Same.seqT s q⟩
theorem PL.same (s : Same H H') {a : Addr} {ps : List (Nat × Nat)} (h : PL K H a ps) : PL K H' a ps := let ⟨xs, q, r⟩ := h; ⟨xs, s _ _ q, r.mono fun _ _ z => z.same s⟩
end
/-- the places of a law -/
def Lw.places (l : Lw) : List (Nat × Nat) := if l.ex then l.ts.map fun t => (t.k, t.j) else (l.k, l.j) :: l.ts.map fun t => (t.k, t.j)
/-- a law of a model with so many quantities -/
structure VL (many : Nat) (l : Lw) : Prop where
  ts : ∀ t ∈ l.ts, t.k < 4 ∧ t.j < many
  own : l.ex = false → l.k < 4 ∧ l.j < many
  num : l.ex = true → ∀ t ∈ l.ts, ∃ n : Int, t.h = .inl n ∧ n ≠ 0 ∧ n.natAbs < 10 ^ 8
  nam : l.ex = false → ∀ t ∈ l.ts, ∃ s : Str, t.h = .inr s ∧ s.length ≤ 200 ∧ ∀ c ∈ s.cps.toList, c < 200
  src : l.src.length ≤ 600 ∧ ∀ c ∈ l.src.cps.toList, c < 200
  many : l.ts.length ≤ 130
structure VM (m : Mdl) : Prop where
  qs : m.qs.length ≤ 30 ∧ ∀ q ∈ m.qs, q.length ≤ 600 ∧ ∀ c ∈ q.cps.toList, c < 200
  ls : m.ls.length ≤ 40
  ok : ∀ l ∈ m.ls, VL m.qs.length l
theorem VL.place {many : Nat} {l : Lw} (h : VL many l) : ∀ p ∈ l.places, p.1 < 4 ∧ p.2 < many := by
  have tp : ∀ p ∈ l.ts.map (fun t => (t.k, t.j)), p.1 < 4 ∧ p.2 < many := fun p hp => by
    obtain ⟨t, ht, rfl⟩ := List.mem_map.mp hp
    exact h.ts t ht
  unfold Lw.places
  cases e : l.ex with
  | true => exact tp
  | false =>
    intro p hp
    rcases List.mem_cons.mp hp with rfl | hp
    · exact h.own e
    · exact tp p hp
theorem VL.placeN {many : Nat} {l : Lw} (h : VL many l) : l.places.length ≤ 131 := by
  have := h.many
  unfold Lw.places
  cases l.ex <;> simp <;> omega
/-! new lists -/
/-- lists of flat things, all new, in a new list -/
def Rows (H H' : Hp) (p : Addr) (rows : List (List V)) : Prop := ∃ rs : List Addr, H' p = some (.lst (rs.map V.ref)) ∧ A2 (fun r row => H' r = some (.lst row)) rs rows ∧ ∀ r ∈ rs, H r = none ∧ r ≠ p
/-- each of es once -/
def Inj (es : List Addr) : Prop := ∀ (i j : Nat) (e : Addr), es[i]? = some e → es[j]? = some e → i = j
/-- lists of such, all new -/
def Tabs (H H' : Hp) (p : Addr) (tab : List (List (List V))) : Prop := ∃ rs : List Addr, H' p = some (.lst (rs.map V.ref)) ∧ (∀ r ∈ rs, H r = none ∧ r ≠ p) ∧ Inj rs ∧
  A2 (fun r row => ∃ es : List Addr, H' r = some (.lst (es.map V.ref)) ∧ A2 (fun e x => H' e = some (.lst x)) es row ∧ ∀ e ∈ es, H e = none ∧ e ≠ p ∧ e ∉ rs) rs tab
/-- all but D stand as they stood -/
def SameX (D : Addr) (H H' : Hp) : Prop := ∀ c o, c ≠ D → H c = some o → H' c = some o
theorem sx {D : Addr} {H H' : Hp} (s : Same H H') : SameX D H H' := fun c o _ h => s c o h
theorem SameX.trans {D : Addr} {H H1 H2 : Hp} (a : SameX D H H1) (b : SameX D H1 H2) : SameX D H H2 := fun c o n h => b c o n (a c o n h)
theorem SameX.put {D : Addr} {H : Hp} {o : HO} : SameX D H (upd H D o) := fun c x n h => by
  rw [upd_ne n]; exact h
theorem SameX.seqT {K : PySem.W.Frag} {D : Addr} {H H' : Hp} {a : Addr} {xs : List V} (e : SameX D H H') (n : a ≠ D) (h : SqT K H a xs) : SqT K H' a xs := by
  rcases h with (h | ⟨o, h⟩) | h
  · exact .inl (.inl (e _ _ n h))
  · exact .inl (.inr ⟨o, e _ _ n h⟩)
  · exact .inr h
section
variable {J : It} {n : Nat} {G : Hp → Prop} {Y : Nat → Hp → V → Hp → Prop} {g : TG} {tt : TT} {te : TE} {vs : List Nat} {σ : L2.St} {H1 : Hp} {D : Addr} {Qd : Hp → Prop}
/-- what a comprehension wants of its turns -/
abbrev LcW (J : It) (g : TG) (tt : TT) (te : TE) (vs : List Nat) (σ : L2.St) (H1 : Hp) (D : Addr) (Qd : Hp → Prop) : Prop :=
  ∃ W : Nat → Nat → Hp → Prop, (∃ m, W 0 m (upd H1 D (.lst []))) ∧ ∀ i m H, W i m H →
      (J.stop i H ∧ Qd H) ∨ (J.go i H ∧ ∃ Nx : Hp → Prop, (∀ H', Nx H' → ∃ m', m' < m ∧ W (i + 1) m' H') ∧ ∀ x H', J.yld i H x H' → g x (wipe σ vs) H' fun σ2 H2 => wipe σ2 vs = wipe σ vs ∧ tt σ2 H2 fun b H3 =>
        if b = true then te σ2 H3 fun y H4 => ∃ acc, H4 D = some (.lst acc) ∧ acc.length < sizeLine ∧ Nx (upd H4 D (.lst (acc ++ [y]))) else Nx H3)
theorem lc_inv (w : Walk J n G Y) (R : Nat → Hp → List V → Prop) (nD : H1 D = none) (hG : ∀ H', Same H1 H' → G H') (hl : n < sizeLine) (h0 : R 0 (upd H1 D (.lst [])) [])
    (hs : ∀ i x H Hx ys, i < n → Same H1 H → H D = some (.lst ys) → R i H ys → Y i H x Hx → ∀ (Qt : VK) (Qf : Hp → Prop), (∀ y H4, Same H H4 → R (i + 1) (upd H4 D (.lst (ys ++ [y]))) (ys ++ [y]) → Qt y H4) →
      (∀ H3, Same H H3 → R (i + 1) H3 ys → Qf H3) → g x (wipe σ vs) Hx fun σ2 H2 => wipe σ2 vs = wipe σ vs ∧ tt σ2 H2 fun b H3 => if b = true then te σ2 H3 Qt else Qf H3)
    (hd : ∀ H ys, Same H1 H → H D = some (.lst ys) → R n H ys → Qd H) : LcW J g tt te vs σ H1 D Qd := by
  refine lc_it w (fun i H => Same H1 H ∧ ∃ ys, ys.length ≤ i ∧ H D = some (.lst ys) ∧ R i H ys) ⟨same_upd nD, [], Nat.le_refl _, upd_same, h0⟩ (fun i H _ p => hG H p.1) (fun i x H Hx hi p y => ?_) (fun H p => ?_)
  · obtain ⟨sm, ys, hn, hD, hR⟩ := p
    refine hs i x H Hx ys hi sm hD hR y (fun y H4 => ∃ acc, H4 D = some (.lst acc) ∧ acc.length < sizeLine ∧ Same H1 (upd H4 D (.lst (acc ++ [y]))) ∧ ∃ zs, zs.length ≤ i + 1 ∧ upd H4 D (.lst (acc ++ [y])) D = some (.lst zs) ∧ R (i + 1) (upd H4 D (.lst (acc ++ [y]))) zs) _ (fun y H4 s4 r => ?_) (fun H3 s3 r => ?_)
    · exact ⟨ys, s4 _ _ hD, by omega, same_over (sm.trans s4) nD, ys ++ [y], by rw [List.length_append]; exact Nat.succ_le_succ hn, upd_same, r⟩
    · exact ⟨sm.trans s3, ys, by omega, s3 _ _ hD, r⟩
  · obtain ⟨sm, ys, _, hD, hR⟩ := p
    exact hd H ys sm hD hR
/-- item by item -/
theorem lc_fm {α β : Type} (w : Walk J n G Y) (ls : List α) (f : α → Option β) (rel : Hp → V → β → Prop) (mono : ∀ H H' v b, SameX D H H' → rel H v b → rel H' v b) (hn : ls.length = n) (nD : H1 D = none)
    (hG : ∀ H', Same H1 H' → G H') (hl : n < sizeLine)
    (hs : ∀ i x H Hx ys l, ls[i]? = some l → Same H1 H → H D = some (.lst ys) → Y i H x Hx → ∀ (Qt : VK) (Qf : Hp → Prop), (∀ y H4 b, f l = some b → Same H H4 → rel H4 y b → Qt y H4) →
      (f l = none → ∀ H3, Same H H3 → Qf H3) → g x (wipe σ vs) Hx fun σ2 H2 => wipe σ2 vs = wipe σ vs ∧ tt σ2 H2 fun b H3 => if b = true then te σ2 H3 Qt else Qf H3)
    (hd : ∀ H ys, Same H1 H → H D = some (.lst ys) → A2 (rel H) ys (ls.filterMap f) → Qd H) : LcW J g tt te vs σ H1 D Qd := by
  refine lc_inv w (fun i H ys => A2 (rel H) ys ((ls.take i).filterMap f)) nD hG hl .nil (fun i x H Hx ys hi sm hD hR y Qt Qf qt qf => ?_) (fun H ys sm hD hR => ?_)
  · obtain ⟨l, hl⟩ : ∃ l, ls[i]? = some l := ⟨ls[i]'(by omega), by simp [show i < ls.length by omega]⟩
    refine hs i x H Hx ys l hl sm hD y Qt Qf (fun y H4 b hb s4 r => ?_) (fun hb H3 s3 => ?_)
    · refine qt y H4 s4 ?_
      rw [take_snoc hl, List.filterMap_append]
      show A2 _ _ (_ ++ List.filterMap f [l])
      rw [show List.filterMap f [l] = [b] by simp [hb]]
      exact A2.snoc (mono _ _ _ _ SameX.put r) (hR.mono fun _ _ z => mono _ _ _ _ ((sx s4).trans SameX.put) z)
    · refine qf H3 s3 ?_
      rw [take_snoc hl, List.filterMap_append]
      show A2 _ _ (_ ++ List.filterMap f [l])
      rw [show List.filterMap f [l] = [] by simp [hb], List.append_nil]
      exact hR.mono fun _ _ z => mono _ _ _ _ (sx s3) z
  · rw [List.take_of_length_le (by omega)] at hR
    exact hd H ys sm hD hR
end
/-- a text so many times -/
theorem op_mulS {X : Cx} : OpR X (binaryOp .Mult) (fun x y H Q => ∃ (z : Str) (n : Int), x = .str z ∧ y = .int n ∧ z.length ≤ 1 ∧ -1000 ≤ n ∧ n ≤ 1000 ∧ Q (.str (Txt.mul z n)) H) := by
  intro pins s σ H x y v u Q I rx ry h
  obtain ⟨z, n, rfl, rfl, h1, h2, h3, q⟩ := h
  obtain ⟨t, rfl⟩ := rx
  obtain ⟨t', rfl⟩ := ry
  exact SB.mul (mulOk_of 1 1000 h1 h3 (by omega) (by decide) (by decide)) fun t k => ⟨.str _, H, I.tok _, ⟨_, rfl⟩, q⟩
def rLenS (K : PySem.W.Frag) : List V → Hp → VK → Prop := fun xs H Q => ∃ p ys, xs = [.ref p] ∧ (SqL K H p ys ∨ SqT K H p ys) ∧ Q (.int (ys.length : Nat)) H
theorem call_lenC {X : Cx} : CallR X (.builtin "len") (rLenS X.K) := call_len_seq
theorem r65 {k : Nat} {A : Around} (r : Room k A) : A.units + 65 < cLine := by have := r.un; omega
theorem log_small {n : Nat} (h : n < 2 ^ 30) : n.log2 < 1920 := by
  rcases Nat.eq_zero_or_pos n with rfl | p
  · decide
  · exact Nat.lt_of_lt_of_le ((Nat.log2_lt (by omega)).mpr h) (by decide)
-- P1
section
variable {P : Program} {w : World} {K : PySem.W.Frag} {mg : Str → Option Value} {base : Heap}
theorem ex_eq {l : Lw} {H : Hp} {v : V} (h : LW K H v l) : ∃ a xs, v = .ref a ∧ SqT K H a xs ∧ atI xs 0 = some (.str (if l.ex then "exact" else "sized")) := by
  obtain ⟨a, p, e, _, ⟨z, h⟩ | ⟨z, h⟩⟩ := h
  · exact ⟨a, _, e, h, by rw [z]; rfl⟩
  · exact ⟨a, _, e, h, by rw [z]; rfl⟩
theorem str_ex (b : Bool) : decide (V.str (if b then "exact" else "sized") = V.str "exact") = b := by
  cases b <;> decide +kernel
def sp_is_exact (K : PySem.W.Frag) : Sp := fun vs H Q _ => ∃ (v : V) (l : Lw), vs = [v] ∧ LW K H v l ∧ Q (.bl l.ex) H
theorem ok_is_exact (T : Txt K mg) : FnOk P w K mg base CX0 1 T.is_exact.a T.is_exact.fd ["told"] (sp_is_exact K) := by
  refine T.is_exact.F.ok sc_is_exact (fun vs H Q E h => ?_) (fun cdv A outer s H vs Q E hr h => ?_)
  · obtain ⟨v, l, rfl, _⟩ := h
    rfl
  · obtain ⟨v, l, rfl, hl, q⟩ := h
    refine ⟨_, (pss_one (ps_ret (pe_cmpR op_eq (pe_ix ix_tup (pv 0) pe_int (fun _ _ => rfl)) pe_str (nomark _)))), ?_⟩
    obtain ⟨a, xs, rfl, ht, h0⟩ := ex_eq hl
    refine ⟨_, rfl, a, xs, _, _, rfl, rfl, ht, h0, rfl, ?_⟩
    rw [str_ex]
    exact q
def sp_terms_of (K : PySem.W.Frag) : Sp := fun vs H Q _ => ∃ (v : V) (l : Lw) (p : Addr), vs = [v] ∧ LW K H v l ∧ LWp K H v l p ∧ Q (.ref p) H
theorem ok_terms_of (T : Txt K mg) : FnOk P w K mg base CX0 2 T.terms_of.a T.terms_of.fd ["told"] (sp_terms_of K) := by
  refine T.terms_of.F.ok sc_terms_of (fun vs H Q E h => ?_) (fun cdv A outer s H vs Q E hr h => ?_)
  · obtain ⟨v, l, p, rfl, _⟩ := h
    rfl
  · obtain ⟨v, l, p, rfl, hl, hp, q⟩ := h
    refine ⟨_, (pss_one (ps_ret (pe_ifExp (pt_val (pe_call (ok_is_exact T) (hr.mono (by decide)) (by rfl) T.is_exact.g T.is_exact.F.kp T.is_exact.b .nil pass0 (pa_cons (pv 0) pa_nil))) (pe_ix ix_tup (pv 0) pe_int (fun _ _ => rfl)) (pe_ix ix_tup (pv 0) pe_int (fun _ _ => rfl))))), ?_⟩
    refine ⟨v, rfl, v, l, rfl, hl, _, rfl, ?_⟩
    obtain ⟨a, rfl, ⟨z, h⟩ | ⟨z, h⟩⟩ := hp
    · rw [z]
      exact iteT ⟨_, rfl, a, _, _, _, rfl, rfl, h, rfl, q⟩
    · rw [z]
      exact iteF ⟨_, rfl, a, _, _, _, rfl, rfl, h, rfl, q⟩
/-- the sizes of a sized law -/
def Lw.heads (l : Lw) : List Hd := if l.ex then [] else l.ts.map (·.h)
def sp_sizes_in (K : PySem.W.Frag) : Sp := fun vs H Q _ => ∃ (v : V) (l : Lw), vs = [v] ∧ LW K H v l ∧ l.ts.length ≤ 1000 ∧ ∀ H' p, Same H H' → H p = none → H' p = some (.lst (l.heads.map vH)) → Q (.ref p) H'
theorem fm_id {α β : Type} (f : α → β) (xs : List α) : xs.filterMap (fun x => some (f x)) = xs.map f := by rw [List.filterMap_eq_map']
theorem a2_eq {α β : Type} {f : β → α} : ∀ {xs : List α} {ys : List β}, A2 (fun x y => x = f y) xs ys → xs = ys.map f
  | _, _, .nil => rfl
  | _, _, .cons h t => by rw [List.map_cons, h, a2_eq t]
theorem ok_sizes_in (T : Txt K mg) : FnOk P w K mg base CX0 2 T.sizes_in.a T.sizes_in.fd ["told"] (sp_sizes_in K) := by
  refine T.sizes_in.F.ok sc_sizes_in (fun vs H Q E h => ?_) (fun cdv A outer s H vs Q E hr h => ?_)
  · obtain ⟨v, l, rfl, _⟩ := h
    rfl
  · obtain ⟨v, l, rfl, hl, hn, q⟩ := h
    refine ⟨_, (pss_one (ps_ret (pe_ifExp (pt_val (pe_call (ok_is_exact T) (hr.mono (by decide)) (by rfl) T.is_exact.g T.is_exact.F.kp T.is_exact.b .nil pass0 (pa_cons (pv 0) pa_nil))) (pe_lst pa_nil) (pe_lc (own := [("size", 1), ("_", 2), ("_", 2)]) (g := gTup K 3 (gCons (gName 1) (gCons (gName 2) (gCons (gName 2) gNil)))) rfl sc_sizes_in.nd (pi_list (pe_ix ix_tup (pv 0) pe_int (fun _ _ => rfl))) (blkOk_by (N := ["told", "size", "_"]) (sc := defScope s_sizes_in) (by decide +kernel)) (fun _ _ _ _ _ => (pg_tup rfl (pgs_cons (pg_name (i := 1) sc_sizes_in.nd rfl (.inl rfl)) (pgs_cons (pg_name (i := 2) sc_sizes_in.nd rfl (.inl rfl)) (pgs_cons (pg_name (i := 2) sc_sizes_in.nd rfl (.inl rfl)) pgs_nil))))) (fun _ _ _ _ _ => pts_nil) (fun _ _ _ _ _ => (pv 1)))))), ?_⟩
    refine ⟨v, rfl, v, l, rfl, hl, _, rfl, ?_⟩
    obtain ⟨a, p, rfl, ⟨xs, hx, hr2⟩, ⟨z, h⟩ | ⟨z, h⟩⟩ := hl
    · rw [z]
      refine iteT ⟨by show 0 ≤ sizeLine; decide, fun p hp => ?_⟩
      exact q _ p (same_upd hp) hp (by rw [upd_same]; unfold Lw.heads; rw [z]; rfl)
    · rw [z]
      refine iteF ⟨_, rfl, a, _, _, _, rfl, rfl, h, rfl, p, rfl, ⟨xs, hx⟩, fun D nD => ?_⟩
      refine lc_fm (walk_list (xs := xs)) l.ts (fun t => some t.h) (fun _ v b => v = vH b) (fun _ _ _ _ _ z => z) hr2.len.symm nD (fun H' s => s.seq hx) (small' (by have := hr2.len; omega)) (fun i x H' Hx ys t ht sm hD y Qt Qf qt qf => ?_) (fun H' ys sm hD hR => ?_)
      · obtain ⟨rfl, hx⟩ := y
        obtain ⟨t', ht', r⟩ := hr2.get hx
        obtain rfl := Option.some.inj (ht.symm.trans ht')
        obtain ⟨b, rfl, rb⟩ := r.same sm
        exact ⟨b, _, rfl, rb, rfl, _, _, rfl, _, _, rfl, _, _, rfl, rfl, rfl, _, rfl, qt _ _ _ rfl (Same.refl _) rfl⟩
      · refine q H' D sm nD ?_
        rw [hD, a2_eq hR]
        unfold Lw.heads
        rw [z, fm_id]
        rfl
def sp_places_of (K : PySem.W.Frag) : Sp := fun vs H Q _ => ∃ (v : V) (l : Lw), vs = [v] ∧ LW K H v l ∧ l.ts.length ≤ 1000 ∧ ∀ H' p, Same H H' → H p = none → PL K H' p l.places → Q (.ref p) H'
/-- a place, not the list D itself -/
def PTX (K : PySem.W.Frag) (D : Addr) (H : Hp) (v : V) (p : Nat × Nat) : Prop := ∃ a, v = .ref a ∧ a ≠ D ∧ SqT K H a [.int (p.1 : Nat), .int (p.2 : Nat)]
theorem PTX.mono {D : Addr} (H H' : Hp) (v : V) (b : Nat × Nat) (s : SameX D H H') (h : PTX K D H v b) : PTX K D H' v b := let ⟨a, e, n, q⟩ := h; ⟨a, e, n, s.seqT n q⟩
theorem PTX.pt {D : Addr} {H : Hp} {v : V} {b : Nat × Nat} (h : PTX K D H v b) : PT2 K H v b := let ⟨a, e, _, q⟩ := h; ⟨a, e, q⟩
theorem ok_places_of (T : Txt K mg) : FnOk P w K mg base CX0 3 T.places_of.a T.places_of.fd ["told"] (sp_places_of K) := by
  refine T.places_of.F.ok sc_places_of (fun vs H Q E h => ?_) (fun cdv A outer s H vs Q E hr h => ?_)
  · obtain ⟨v, l, rfl, _⟩ := h
    rfl
  · obtain ⟨v, l, rfl, hl, hn, q⟩ := h
    refine ⟨_, (pss_cons (ps_setLc (i := 1) (own := [("_", 2), ("k", 3), ("j", 4)]) (g := gTup K 3 (gCons (gName 2) (gCons (gName 3) (gCons (gName 4) gNil)))) rfl sc_places_of.nd rfl rfl (sw_true rfl rfl rfl (by decide +kernel)) (pi_list (pe_call (ok_terms_of T) (hr.mono (by decide)) (by rfl) T.terms_of.g T.terms_of.F.kp T.terms_of.b .nil pass0 (pa_cons (pv 0) pa_nil))) (blkOk_by (N := ["told", "places", "_", "k", "j"]) (sc := defScope s_places_of) (by decide +kernel)) (fun _ _ _ _ _ => (pg_tup rfl (pgs_cons (pg_name (i := 2) sc_places_of.nd rfl (.inl rfl)) (pgs_cons (pg_name (i := 3) sc_places_of.nd rfl (.inl rfl)) (pgs_cons (pg_name (i := 4) sc_places_of.nd rfl (.inl rfl)) pgs_nil))))) (fun _ _ _ _ _ => pts_nil) (fun _ _ _ _ _ => (pe_tup (pa_cons (pv 3) (pa_cons (pv 4) pa_nil)))))
      (pss_one (ps_ret (pe_ifExp (pt_val (pe_call (ok_is_exact T) (hr.mono (by decide)) (by rfl) T.is_exact.g T.is_exact.F.kp T.is_exact.b .nil pass0 (pa_cons (pv 0) pa_nil))) (pv 1) (pe_op op_cat (pe_lst (pa_cons (pe_tup (pa_cons (pe_ix ix_tup (pv 0) pe_int (fun _ _ => rfl)) (pa_cons (pe_ix ix_tup (pv 0) pe_int (fun _ _ => rfl)) pa_nil))) pa_nil)) (pv 1)))))), ?_⟩
    obtain ⟨p, hlp, xs, hx, hr2⟩ := hl.p
    refine ⟨v, rfl, v, l, p, rfl, hl, hlp, ?_⟩
    refine ⟨p, rfl, ⟨xs, hx⟩, fun D nD => ?_⟩
    refine lc_fm (walk_list (xs := xs)) l.ts (fun t => some (t.k, t.j)) (PTX K D) PTX.mono hr2.len.symm nD (fun H' s => s.seq hx) (small' (by have := hr2.len; omega)) (fun i x H' Hx ys t ht sm hD y Qt Qf qt qf => ?_) (fun H' ys sm hD hR => ?_)
    · obtain ⟨rfl, hx⟩ := y
      obtain ⟨t', ht', r⟩ := hr2.get hx
      obtain rfl := Option.some.inj (ht.symm.trans ht')
      obtain ⟨b, rfl, rb⟩ := r.same sm
      refine ⟨b, _, rfl, rb, rfl, _, _, rfl, _, _, rfl, _, _, rfl, rfl, rfl, _, rfl, _, rfl, by show 2 ≤ sizeLine; decide, fun c hc => ?_⟩
      exact qt _ _ _ rfl (same_upd hc) ⟨c, rfl, (fun z => by rw [z, hD] at hc; cases hc), .of upd_same⟩
    · rw [fm_id] at hR
      refine ⟨v, rfl, v, l, rfl, hl.same sm, _, rfl, ?_⟩
      obtain ⟨a, p2, rfl, hp, ⟨z, h⟩ | ⟨z, h⟩⟩ := hl
      · rw [z]
        refine iteT ⟨_, rfl, q H' D sm nD ⟨ys, hD, ?_⟩⟩
        unfold Lw.places
        rw [z]
        exact hR.mono fun _ _ => PTX.pt
      · rw [z]
        refine iteF ?_
        have h := Same.seqT sm h
        refine ⟨_, rfl, a, _, _, _, rfl, rfl, h, rfl, _, rfl, a, _, _, _, rfl, rfl, h, rfl, by show 2 ≤ sizeLine; decide, fun t nt => ?_⟩
        refine ⟨by show 1 ≤ sizeLine; decide, fun u nu => ?_⟩
        have hDu : D ≠ u := fun z => by rw [← z, upd_ne (fun y => by rw [← y, hD] at nt; cases nt), hD] at nu; cases nu
        have hD2 : upd (upd H' t (.tup [.int (l.k : Nat), .int (l.j : Nat)])) u (.lst [V.ref t]) D = some (.lst ys) := by
          rw [upd_ne hDu, upd_ne (fun y => by rw [← y, hD] at nt; cases nt)]; exact hD
        refine ⟨_, rfl, u, D, _, _, rfl, rfl, upd_same, hD2, ?_, fun r nr => ?_⟩
        · have := hR.len
          simp at this
          exact small (by simp; omega)
        · have s1 : Same H' (upd (upd H' t (.tup [.int (l.k : Nat), .int (l.j : Nat)])) u (.lst [V.ref t])) := (same_upd nt).trans (same_upd nu)
          refine q _ r (sm.trans (s1.trans (same_upd nr))) ((sm.trans s1).free nr) ⟨_, upd_same, ?_⟩
          unfold Lw.places
          rw [z]
          refine .cons ⟨t, rfl, .of ?_⟩ (hR.mono fun _ _ z => (PTX.pt z).same (s1.trans (same_upd nr)))
          exact same_upd nr _ _ (same_upd nu _ _ upd_same)
end
-- P2
section
variable {P : Program} {w : World} {K : PySem.W.Frag} {mg : Str → Option Value} {base : Heap}
theorem seqT_x {D a : Addr} {H H' : Hp} {xs ys : List V} (hD : H D = some (.lst ys)) (s : SameX D H H') (h : SqT K H a xs) : SqT K H' a xs := by
  rcases h with (h | ⟨o, h⟩) | h
  · exact .inl (.inl (s _ _ (fun z => by rw [z, hD] at h; cases h) h))
  · exact .inl (.inr ⟨o, s _ _ (fun z => by rw [z, hD] at h; cases h) h⟩)
  · exact .inr h
theorem seqL_x {D a : Addr} {H H' : Hp} {xs : List V} (n : a ≠ D) (s : SameX D H H') (h : SqL K H a xs) : SqL K H' a xs := by
  rcases h with (h | ⟨o, h⟩) | h
  · exact .inl (.inl (s _ _ n h))
  · exact .inl (.inr ⟨o, s _ _ n h⟩)
  · exact .inr h
theorem ix_ok {n j : Nat} {i : Int} (e : i = (j : Int)) (h : j < n) : ixN n i = some j := by
  unfold ixN
  rw [if_pos (by omega), if_pos (by omega), e]; rfl
/-! ### greatest orders -/
def vO : Option Nat → V
  | none => .non
  | some k => .int (k : Nat)
def better (x : Option Nat) (k : Nat) : Bool := match x with
  | none => true
  | some m => decide (m < k)
def pstep (row : List (Option Nat)) (p : Nat × Nat) : List (Option Nat) := if better (row.getD p.2 none) p.1 then row.set p.2 (some p.1) else row
theorem pstep_len (row : List (Option Nat)) (p : Nat × Nat) : (pstep row p).length = row.length := by
  unfold pstep
  split <;> simp
def prowN (many : Nat) (ps : List (Nat × Nat)) : List (Option Nat) := ps.foldl pstep (List.replicate many none)
theorem pfold_len : ∀ (ps : List (Nat × Nat)) (row : List (Option Nat)), (ps.foldl pstep row).length = row.length
  | [], _ => rfl
  | p :: r, row => by rw [List.foldl_cons, pfold_len r, pstep_len]
theorem fold_take {α β : Type} (f : β → α → β) (b : β) {xs : List α} {i : Nat} {x : α} (h : xs[i]? = some x) : (xs.take (i + 1)).foldl f b = f ((xs.take i).foldl f b) x := by
  rw [take_snoc h, List.foldl_append]; rfl
theorem mem_at {α : Type} {xs : List α} {i : Nat} {x : α} (h : xs[i]? = some x) : x ∈ xs := List.mem_of_getElem? h
theorem at_getD {α : Type} {xs : List α} {j : Nat} {d : α} (h : j < xs.length) : xs[j]? = some (xs.getD j d) := by
  rw [List.getD_eq_getElem?_getD, List.getElem?_eq_getElem h]; rfl
theorem atO {row : List (Option Nat)} {j : Nat} (h : j < row.length) : atI (row.map vO) ((j : Nat) : Int) = some (vO (row.getD j none)) := by
  refine atI_nat ?_
  rw [List.getElem?_map, at_getD (d := none) h]; rfl
theorem setO_map {row : List (Option Nat)} {j k : Nat} : (row.map vO).set j (V.int (k : Nat)) = (row.set j (some k)).map vO := by rw [List.map_set]; rfl
/-- the loop that both sides have: its test and its store, at slots of their own -/
theorem better_none {x : Option Nat} (h : x = none) (k : Nat) : better x k = true := by rw [h]; rfl
def sp_powers_in (K : PySem.W.Frag) : Sp := fun vs H Q _ => ∃ (v : V) (l : Lw) (many : Nat), vs = [v, .int (many : Nat)] ∧ LW K H v l ∧ VL many l ∧ many ≤ 30 ∧
  ∀ H' p, Same H H' → H p = none → H' p = some (.lst ((prowN many l.places).map vO)) → Q (.ref p) H'
theorem ok_powers_in (T : Txt K mg) : FnOk P w K mg base CX0 4 T.powers_in.a T.powers_in.fd ["told", "many"] (sp_powers_in K) := by
  refine T.powers_in.F.ok sc_powers_in (fun vs H Q E h => ?_) (fun cdv A outer s H vs Q E hr h => ?_)
  · obtain ⟨v, l, many, rfl, _⟩ := h
    rfl
  · obtain ⟨v, l, many, rfl, hl, vl, hm, q⟩ := h
    refine ⟨_, (pss_cons (ps_set (i := 2) sc_powers_in.nd rfl (.inl rfl) (pe_op op_rep (pe_lst (pa_cons pe_non pa_nil)) (pv 1)))
      (pss_cons (ps_for PassesOwn.never rfl (pi_list (pe_call (ok_places_of T) (hr.mono (by decide)) (by rfl) T.places_of.g T.places_of.F.kp T.places_of.b .nil pass0 (pa_cons (pv 0) pa_nil))) (pg_tup rfl (pgs_cons (pg_name (i := 3) sc_powers_in.nd rfl (.inl rfl)) (pgs_cons (pg_name (i := 4) sc_powers_in.nd rfl (.inl rfl)) pgs_nil)))
        (pss_one (ps_if (PW.pt (pw_or (pt_cmpR op_isN (pe_ix ix_list (pv 2) (pv 4) (fun _ _ => rfl)) pe_non (nomark _)) (pw_or1 (pt_cmpR op_lt (pe_ix ix_list (pv 2) (pv 4) (fun _ _ => rfl)) (pv 3) (nomark _)))))
          (pss_one (ps_asg (pv 3) (pg_sub (pv 2) (pv 4) set_list)))
          pss_nil)))
      (pss_one (ps_ret (pv 2))))), ?_⟩
    refine ⟨by show 1 ≤ sizeLine; decide, fun l0 n0 => ?_⟩
    refine ⟨_, rfl, l0, _, _, rfl, rfl, upd_same, by omega, by omega, small (by simp; omega), fun D nD => ?_⟩
    have nl : D ≠ l0 := fun z => by rw [z, upd_same] at nD; cases nD
    have HD := (same_upd n0).free nD
    have s1 : Same H (upd (upd H l0 (.lst [V.non])) D (.lst (List.replicate ((many : Nat) : Int).toNat [V.non]).flatten)) := (same_upd n0).trans (same_upd nD)
    have e0 : (List.replicate ((many : Nat) : Int).toNat [V.non]).flatten = ((prowN many []).map vO) := by
      unfold prowN
      rw [Int.toNat_natCast, List.foldl_nil, List.map_replicate, List.flatten_replicate_singleton]
      rfl
    rw [e0] at s1 ⊢
    refine ⟨v, rfl, v, l, rfl, hl.same s1, Nat.le_trans vl.many (by decide), fun H' c s2 nc ⟨xs, hc, hR⟩ => ?_⟩
    have hD0 := s2 D _ upd_same
    have cD : c ≠ D := fun z => by rw [z, upd_same] at nc; cases nc
    refine ⟨c, rfl, ⟨xs, .of hc⟩, ?_⟩
    refine for_it (walk_list (xs := xs)) (fun i σ G => ∃ x3 x4, σ = [some v, some (.int (many : Nat)), some (.ref D), x3, x4] ∧ SameX D H' G ∧ G D = some (.lst ((prowN many (l.places.take i)).map vO)))
      ⟨none, none, rfl, fun _ _ _ z => z, hD0⟩ (fun i σ G _ p => ?_) (fun i x σ G G' hi p y => ?_) (fun σ G p => ?_)
    · obtain ⟨_, _, _, sx, _⟩ := p
      exact seqL_x cD sx (.of hc)
    · obtain ⟨x3, x4, rfl, sx, hD⟩ := p
      obtain ⟨rfl, hx⟩ := y
      obtain ⟨pl, hp, b, rfl, hb⟩ := hR.get hx
      have hb' := seqT_x hD0 sx hb
      obtain ⟨_, hj⟩ := vl.place pl (mem_at hp)
      have len : (prowN many (l.places.take i)).length = many := by unfold prowN; rw [pfold_len, List.length_replicate]
      refine ⟨b, _, rfl, hb', rfl, _, _, rfl, _, _, rfl, rfl, ?_⟩
      have ta : prowN many (l.places.take (i + 1)) = pstep (prowN many (l.places.take i)) pl := fold_take _ _ hp
      refine ⟨.ref D, rfl, _, rfl, D, _, _, _, rfl, rfl, .of hD, atO (by omega), rfl, _, rfl, ?_⟩
      have store : ∀ x3 x4, better ((prowN many (l.places.take i)).getD pl.2 none) pl.1 = true → ∃ x3' x4', [some v, some (.int (many : Nat)), some (.ref D), x3, x4] = [some v, some (.int (many : Nat)), some (.ref D), x3', x4'] ∧ SameX D H' (upd G' D (.lst (((prowN many (l.places.take i)).map vO).set pl.2 (V.int (pl.1 : Nat))))) ∧
          upd G' D (.lst (((prowN many (l.places.take i)).map vO).set pl.2 (V.int (pl.1 : Nat)))) D = some (.lst ((prowN many (l.places.take (i + 1))).map vO)) := fun x3 x4 hb => by
        refine ⟨x3, x4, rfl, sx.trans SameX.put, ?_⟩
        rw [upd_same, setO_map, ta]
        unfold pstep
        rw [if_pos hb]
      cases e : (prowN many (l.places.take i)).getD pl.2 none with
      | none =>
        refine iteT ⟨_, rfl, _, rfl, _, rfl, D, _, _, pl.2, rfl, rfl, hD, ix_ok rfl (by rw [List.length_map, len]; exact hj), ?_⟩
        exact store _ _ (by rw [e]; rfl)
      | some m =>
        refine iteF ⟨.ref D, rfl, _, rfl, D, _, _, _, rfl, rfl, .of hD, (by rw [atO (by omega), e]; rfl), _, rfl, _, _, rfl, rfl, _, rfl, ite2 (fun h => ?_) (fun h => ?_)⟩
        · refine ⟨_, rfl, _, rfl, _, rfl, D, _, _, pl.2, rfl, rfl, hD, ix_ok rfl (by rw [List.length_map, len]; exact hj), ?_⟩
          exact store _ _ (by rw [e]; have := of_decide_eq_true h; exact decide_eq_true (by omega))
        · refine ⟨_, _, rfl, sx, ?_⟩
          rw [hD, ta]
          unfold pstep
          rw [e, if_neg (fun z => h (decide_eq_true (by have := of_decide_eq_true z; omega)))]
    · obtain ⟨x3, x4, rfl, sx, hD⟩ := p
      refine ⟨_, rfl, q G D (fun a o h => ?_) HD ?_⟩
      · exact sx a o (fun z => by rw [z, HD] at h; cases h) (s2 a o (s1 a o h))
      · rw [List.take_of_length_le (by rw [hR.len]; exact Nat.le_refl _)] at hD
        exact hD
end
-- P3
section
variable {P : Program} {w : World} {K : PySem.W.Frag} {mg : Str → Option Value} {base : Heap}
/-- a new row, not D itself -/
def RV (H1 : Hp) (D : Addr) (H : Hp) (v : V) (b : List V) : Prop := ∃ r, v = .ref r ∧ H1 r = none ∧ r ≠ D ∧ H r = some (.lst b)
theorem RV.mono {H1 : Hp} {D : Addr} (H H' : Hp) (v : V) (b : List V) (s : SameX D H H') (h : RV H1 D H v b) : RV H1 D H' v b := let ⟨r, e, n, d, q⟩ := h; ⟨r, e, n, d, s _ _ d q⟩
theorem rows_of {H1 H : Hp} {D : Addr} : ∀ {ys : List V} {rows : List (List V)}, A2 (RV H1 D H) ys rows → ∃ rs : List Addr, ys = rs.map V.ref ∧ A2 (fun r row => H r = some (.lst row)) rs rows ∧ ∀ r ∈ rs, H1 r = none ∧ r ≠ D
  | _, _, .nil => ⟨[], rfl, .nil, fun _ h => by cases h⟩
  | _, _, .cons h t => by
    obtain ⟨r, e, n, d, q⟩ := h
    obtain ⟨rs, e2, a, f⟩ := rows_of t
    refine ⟨r :: rs, by rw [e, e2]; rfl, .cons q a, fun x hx => ?_⟩
    rcases List.mem_cons.mp hx with rfl | hx
    · exact ⟨n, d⟩
    · exact f x hx
def spRows (K : PySem.W.Frag) (f : Mdl → List (List V)) : Sp := fun vs H Q _ => ∃ (v : V) (m : Mdl), vs = [v] ∧ MD K H v m ∧ VM m ∧ ∀ H' p, Same H H' → H p = none → Rows H H' p (f m) → Q (.ref p) H'
def fPow (m : Mdl) : List (List V) := m.ls.map fun l => (prowN m.qs.length l.places).map vO
theorem ok_powers (T : Txt K mg) : FnOk P w K mg base CX0 5 T.powers.a T.powers.fd ["model"] (spRows K fPow) := by
  refine T.powers.F.ok sc_powers (fun vs H Q E h => ?_) (fun cdv A outer s H vs Q E hr h => ?_)
  · obtain ⟨v, m, rfl, _⟩ := h
    rfl
  · obtain ⟨v, m, rfl, ⟨a, qa, r, xs, rfl, h1, h2, h3, h4⟩, vm, q⟩ := h
    refine ⟨_, (pss_cons (ps_asg (pv 0) (pg_tup rfl (pgs_cons (pg_name (i := 1) sc_powers.nd rfl (.inr rfl)) (pgs_cons (pg_name (i := 2) sc_powers.nd rfl (.inl rfl)) pgs_nil))))
      (pss_one (ps_ret (pe_lc (own := [("told", 3)]) rfl sc_powers.nd (pi_list (pv 2)) (blkOk_by (N := ["model", "quantities", "laws", "told"]) (sc := defScope s_powers) (by decide +kernel)) (fun _ _ _ _ _ => (pg_name (i := 3) sc_powers.nd rfl (.inl rfl))) (fun _ _ _ _ _ => pts_nil) (fun _ _ _ _ _ => (pe_call (ok_powers_in T) (hr.mono (by decide)) (by rfl) T.powers_in.g T.powers_in.F.kp T.powers_in.b .nil pass0 (pa_cons (pv 3) (pa_cons (pe_callB (id := "len") (r := rLenS K) call_lenC (by rfl) T.m_len (by decide +kernel) (pa_cons (pv 1) pa_nil)) pa_nil)))))))), ?_⟩
    refine ⟨.ref a, rfl, a, _, rfl, h1, rfl, _, _, rfl, _, _, rfl, rfl, ?_⟩
    refine ⟨.ref r, rfl, r, rfl, ⟨xs, h3⟩, fun D nD => ?_⟩
    refine lc_fm (walk_list (xs := xs)) m.ls (fun l => some ((prowN m.qs.length l.places).map vO)) (RV H D) RV.mono h4.len.symm nD (fun H' s => s.seq h3) (small' (by have := h4.len; have := vm.ls; omega)) (fun i x H' Hx ys l hl sm hD y Qt Qf qt qf => ?_) (fun H' ys sm hD hR => ?_)
    · obtain ⟨rfl, hx⟩ := y
      obtain ⟨l', hl', rl⟩ := h4.get hx
      obtain rfl := Option.some.inj (hl.symm.trans hl')
      refine ⟨rfl, x, rfl, .ref qa, rfl, qa, _, rfl, .inl (sm.seq h2), x, l, m.qs.length, ?_, rl.same sm, vm.ok l (mem_at hl), vm.qs.1, fun H4 p s4 np hp => ?_⟩
      · rw [List.length_map]; rfl
      · exact qt _ _ _ rfl s4 ⟨p, rfl, sm.free np, (fun z => by rw [z, hD] at np; cases np), hp⟩
    · obtain ⟨rs, e, ha, hf⟩ := rows_of hR
      refine q H' D sm nD ⟨rs, by rw [hD, e], ?_, hf⟩
      rw [fm_id] at ha
      exact ha
/-! ### the rows of the exact table -/
/-- zeros behind ns until it has a k-th number, and n there -/
def putAt (ns : List Int) (k : Nat) (n : Int) : List Int := (ns ++ List.replicate (k + 1 - ns.length) 0).set k n
def tnum (t : Trm) : Int := match t.h with
  | .inl n => n
  | .inr _ => 0
def estep (rows : List (List Int)) (t : Trm) : List (List Int) := rows.set t.j (putAt (rows.getD t.j []) t.k (tnum t))
def erow (many : Nat) (ts : List Trm) : List (List Int) := ts.foldl estep (List.replicate many [])
theorem efold_len : ∀ (ts : List Trm) (rows : List (List Int)), (ts.foldl estep rows).length = rows.length
  | [], _ => rfl
  | p :: r, rows => by rw [List.foldl_cons, efold_len r]; unfold estep; rw [List.length_set]
theorem putAt_le {ns : List Int} {k : Nat} {n : Int} (h : ns.length ≤ 4) (hk : k < 4) : (putAt ns k n).length ≤ 4 := by
  unfold putAt; rw [List.length_set, List.length_append, List.length_replicate]; omega
theorem estep_le {rows : List (List Int)} {t : Trm} (h : ∀ j, (rows.getD j []).length ≤ 4) (hk : t.k < 4) : ∀ j, ((estep rows t).getD j []).length ≤ 4 := fun j => by
  unfold estep
  rw [List.getD_eq_getElem?_getD, List.getElem?_set]
  split
  · split
    · exact putAt_le (h _) hk
    · decide
  · rw [← List.getD_eq_getElem?_getD]; exact h j
theorem efold_le : ∀ {ts : List Trm} {rows : List (List Int)}, (∀ j, (rows.getD j []).length ≤ 4) → (∀ t ∈ ts, t.k < 4) → ∀ j, ((ts.foldl estep rows).getD j []).length ≤ 4
  | [], _, h, _, j => h j
  | t :: r, rows, h, hk, j => efold_le (ts := r) (estep_le h (hk t List.mem_cons_self)) (fun u hu => hk u (List.mem_cons_of_mem _ hu)) j
theorem erow_le {many : Nat} {ts : List Trm} (hk : ∀ t ∈ ts, t.k < 4) (j : Nat) : ((erow many ts).getD j []).length ≤ 4 := by
  refine efold_le (fun j => ?_) hk j
  rw [List.getD_eq_getElem?_getD, List.getElem?_replicate]
  split <;> decide
theorem Inj.snoc {es : List Addr} {e : Addr} (h : Inj es) (n : e ∉ es) : Inj (es ++ [e]) := fun i j x hi hj => by
  have key : ∀ {k : Nat} {y : Addr}, (es ++ [e])[k]? = some y → (k < es.length ∧ es[k]? = some y) ∨ (k = es.length ∧ y = e) := fun {k y} hk => by
    rcases Nat.lt_or_ge k es.length with lt | ge
    · rw [List.getElem?_append_left lt] at hk; exact .inl ⟨lt, hk⟩
    · rw [List.getElem?_append_right ge] at hk
      have := (List.getElem?_eq_some_iff.mp hk).1
      simp at this
      have e0 : k = es.length := by omega
      subst e0
      simp at hk
      exact .inr ⟨rfl, hk.symm⟩
  rcases key hi with ⟨li, ai⟩ | ⟨li, ai⟩ <;> rcases key hj with ⟨lj, aj⟩ | ⟨lj, aj⟩
  · exact h i j x ai aj
  · subst aj; exact absurd (mem_at ai) n
  · subst ai; exact absurd (mem_at aj) n
  · omega
theorem a2_at {α β : Type} {R : α → β → Prop} {d : β} : ∀ {as : List α} {bs : List β}, as.length = bs.length → (∀ i a, as[i]? = some a → R a (bs.getD i d)) → A2 R as bs
  | [], [], _, _ => .nil
  | a :: as, b :: bs, hn, h => .cons (h 0 a rfl) (a2_at (d := d) (by simpa using hn) fun i x hx => h (i + 1) x (by simpa using hx))
def sp_exact_row (K : PySem.W.Frag) : Sp := fun vs H Q _ => ∃ (v : V) (l : Lw) (many : Nat), vs = [v, .int (many : Nat)] ∧ LW K H v l ∧ VL many l ∧ l.ex = true ∧ many ≤ 30 ∧
  ∀ H' p, Same H H' → H p = none → Rows H H' p ((erow many l.ts).map fun ns => ns.map V.int) → Q (.ref p) H'
theorem ok_exact_row (T : Txt K mg) : FnOk P w K mg base CX0 3 T.exact_row.a T.exact_row.fd ["told", "many"] (sp_exact_row K) := by
  refine T.exact_row.F.ok sc_exact_row (fun vs H Q E h => ?_) (fun cdv A outer s H vs Q E hr h => ?_)
  · obtain ⟨v, l, many, rfl, _⟩ := h
    rfl
  · obtain ⟨v, l, many, rfl, hl, vl, ex, hm, q⟩ := h
    refine ⟨_, (pss_cons (ps_setLc (i := 2) (own := [("_", 7)]) rfl sc_exact_row.nd rfl rfl (sw_true rfl rfl rfl (by decide +kernel)) (pi_range1 (by rfl) T.m_range (pa_cons (pv 1) pa_nil)) (blkOk_by (N := ["told", "many", "row", "number", "k", "j", "one", "_"]) (sc := defScope s_exact_row) (by decide +kernel)) (fun _ _ _ _ _ => (pg_name (i := 7) sc_exact_row.nd rfl (.inl rfl))) (fun _ _ _ _ _ => pts_nil) (fun _ _ _ _ _ => (pe_lst pa_nil)))
      (pss_cons (ps_for PassesOwn.never rfl (pi_list (pe_call (ok_terms_of T) (hr.mono (by decide)) (by rfl) T.terms_of.g T.terms_of.F.kp T.terms_of.b .nil pass0 (pa_cons (pv 0) pa_nil))) (pg_tup rfl (pgs_cons (pg_name (i := 3) sc_exact_row.nd rfl (.inl rfl)) (pgs_cons (pg_name (i := 4) sc_exact_row.nd rfl (.inl rfl)) (pgs_cons (pg_name (i := 5) sc_exact_row.nd rfl (.inl rfl)) pgs_nil))))
        (pss_cons (ps_set (i := 6) sc_exact_row.nd rfl (.inl rfl) (pe_ix ix_list (pv 2) (pv 5) (fun _ _ => rfl)))
        (pss_cons (ps_while PassesOwn.never (pt_cmpR op_le (pe_callB call_len_seq (by rfl) T.m_len (by decide +kernel) (pa_cons (pv 6) pa_nil)) (pv 4) (nomark _))
          (pss_one (ps_expr (pe_bm PySem.F.plainAttrs_list PySem.F.slot_list_append PySem.F.type_list_append mt_append (pv 6) (pa_cons pe_int pa_nil)))))
        (pss_one (ps_asg (pv 3) (pg_sub (pv 6) (pv 4) set_list))))))
      (pss_one (ps_ret (pv 2))))), ?_⟩
    refine ⟨_, rfl, (many : Nat), rfl, by omega, by omega, fun D nD => ?_⟩
    rw [Int.toNat_natCast]
    refine lc_inv (walk_range (lo := 0) (n := many)) (fun i G ys => ∃ es : List Addr, ys = es.map V.ref ∧ es.length = i ∧ Inj es ∧ ∀ e ∈ es, IL G e [] ∧ e ≠ D ∧ H e = none) nD (fun _ _ => trivial) (small' (by omega)) ⟨[], rfl, rfl, fun _ _ _ h => by simp at h, fun _ h => by cases h⟩ (fun i x G Hx ys hi sm hD hR y Qt Qf qt qf => ?_) (fun H' ys sm hD hR => ?_)
    · obtain ⟨rfl, rfl⟩ := y
      obtain ⟨es, rfl, hn, inj, hes⟩ := hR
      refine ⟨rfl, by show 0 ≤ sizeLine; decide, fun e ne => ?_⟩
      have eD : e ≠ D := fun z => by rw [z, hD] at ne; cases ne
      refine qt _ _ (same_upd ne) ⟨es ++ [e], by rw [List.map_append]; rfl, by simp [hn], inj.snoc (fun z => by have := (hes e z).1; rw [IL, ne] at this; cases this), fun x hx => ?_⟩
      rcases List.mem_append.mp hx with hx | hx
      · obtain ⟨h1, h2, h3⟩ := hes x hx
        refine ⟨?_, h2, h3⟩
        show upd _ D _ x = _
        rw [upd_ne h2]
        exact same_upd ne _ _ h1
      · simp at hx
        subst hx
        refine ⟨?_, eD, sm.free ne⟩
        show upd _ D _ x = _
        rw [upd_ne eD, upd_same]; rfl
    · obtain ⟨es, rfl, hn, inj, hes⟩ := hR
      obtain ⟨c, hlp, xs, hc, hT⟩ := hl.p
      refine ⟨v, rfl, v, l, c, rfl, hl.same sm, hlp.same sm, ?_⟩
      refine ⟨c, rfl, ⟨xs, sm.seq hc⟩, ?_⟩
      refine for_it (walk_list (xs := xs)) (fun i σ G => ∃ x3 x4 x5 x6, σ = [some v, some (.int (many : Nat)), some (.ref D), x3, x4, x5, x6, none] ∧ Same H G ∧ G D = some (.lst (es.map V.ref)) ∧ ∀ j e, es[j]? = some e → IL G e ((erow many (l.ts.take i)).getD j []))
        ⟨none, none, none, none, rfl, sm, hD, fun j e he => ?_⟩ (fun i σ G _ p => ?_) (fun i x σ G G' hi p y => ?_) (fun σ G p => ?_)
      · rw [show (erow many (l.ts.take 0)).getD j [] = [] by
          unfold erow
          rw [List.take_zero, List.foldl_nil, List.getD_eq_getElem?_getD, List.getElem?_replicate]
          split <;> rfl]
        exact (hes e (mem_at he)).1
      · obtain ⟨_, _, _, _, _, s, _⟩ := p
        exact s.seq hc
      · obtain ⟨x3, x4, x5, x6, rfl, s, hD, he⟩ := p
        obtain ⟨rfl, hx⟩ := y
        obtain ⟨t, ht, b, rfl, hb⟩ := hT.get hx
        obtain ⟨hk, hj⟩ := vl.ts t (mem_at ht)
        obtain ⟨n, hn2, _⟩ := vl.num ex t (mem_at ht)
        rw [hn2] at hb
        obtain ⟨e, hej⟩ : ∃ e, es[t.j]? = some e := ⟨es[t.j]'(by omega), by simp [show t.j < es.length by omega]⟩
        have hIL := he _ _ hej
        obtain ⟨_, eD, eH⟩ := hes e (mem_at hej)
        have len : ((erow many (l.ts.take i)).getD t.j []).length ≤ 4 := erow_le (fun u hu => (vl.ts u (List.mem_of_mem_take hu)).1) t.j
        have ta : erow many (l.ts.take (i + 1)) = estep (erow many (l.ts.take i)) t := fold_take _ _ ht
        have tn : tnum t = n := by unfold tnum; rw [hn2]
        refine ⟨b, _, rfl, Same.seqT s hb, rfl, _, _, rfl, _, _, rfl, _, _, rfl, rfl, ?_⟩
        refine ⟨.ref D, rfl, _, rfl, D, _, _, _, rfl, rfl, .of hD, (atI_nat (by rw [List.getElem?_map, hej]; rfl)), ?_⟩
        generalize hns : (erow many (l.ts.take i)).getD t.j [] = ns at hIL len
        refine while_by (fun σ G2 => σ = [some v, some (.int (many : Nat)), some (.ref D), some (.int n), some (.int (t.k : Nat)), some (.int (t.j : Nat)), some (.ref e), none] ∧ SameX e G' G2 ∧ ∃ z, z ≤ t.k + 1 - ns.length ∧ IL G2 e (ns ++ List.replicate z 0))
          (fun _ G2 => match G2 e with | some (.lst xs) => t.k + 1 - xs.length | _ => 0) ⟨rfl, fun _ _ _ z => z, 0, Nat.zero_le _, by rw [List.replicate_zero, List.append_nil]; exact hIL⟩ (fun σ G2 p => ?_) (fun σ G2 Q1 Q2 hQ h => ?_)
        · obtain ⟨rfl, sx, z, hz, h2⟩ := p
          have h2' : G2 e = some (.lst ((ns ++ List.replicate z 0).map V.int)) := h2
          refine ⟨.ref e, rfl, e, _, rfl, .inl h2.sq, _, rfl, _, _, rfl, rfl, _, rfl, ?_⟩
          rw [List.length_map, List.length_append, List.length_replicate]
          refine ite2 (fun h => ?_) (fun h => ?_)
          · have h := of_decide_eq_true h
            refine ⟨.ref e, rfl, .inl ⟨rfl, _, .of h2'⟩, e, _, _, rfl, rfl, h2', small' (by rw [List.length_map, List.length_append, List.length_replicate]; omega), ⟨rfl, sx.trans SameX.put, z + 1, by omega, ?_⟩, ?_⟩
            · show upd G2 e _ e = _
              rw [upd_same, app_ints, List.append_assoc, List.replicate_succ']
            · rw [upd_same, h2']
              simp only [List.length_append, List.length_map, List.length_replicate, List.length_cons, List.length_nil]
              omega
          · have h : ¬ ((ns.length + z : Nat) : Int) ≤ (t.k : Nat) := fun y => h (decide_eq_true y)
            have ez : z = t.k + 1 - ns.length := by omega
            refine ⟨_, rfl, .ref e, rfl, _, rfl, e, _, _, t.k, rfl, rfl, h2', ix_ok rfl (by rw [List.length_map, List.length_append, List.length_replicate]; omega), ?_⟩
            refine ⟨_, _, _, _, rfl, fun a o ha => ?_, ?_, fun j e' he' => ?_⟩
            · have ae : a ≠ e := fun y => by rw [y, eH] at ha; cases ha
              rw [upd_ne ae]
              exact sx a o ae (s a o ha)
            · rw [upd_ne (Ne.symm eD)]
              exact sx D _ (Ne.symm eD) hD
            · rw [ta]
              unfold estep
              rw [List.getD_eq_getElem?_getD, List.getElem?_set]
              by_cases ej : t.j = j
              · subst ej
                obtain rfl := Option.some.inj (he'.symm.trans hej)
                rw [if_pos rfl, if_pos (by unfold erow; rw [efold_len, List.length_replicate]; exact hj)]
                show upd G2 e' _ e' = _
                rw [upd_same, hns, tn, ez]
                show some (HO.lst (((ns ++ List.replicate (t.k + 1 - ns.length) 0).map V.int).set t.k (V.int n))) = _
                rw [← List.map_set]; rfl
              · rw [if_neg ej, ← List.getD_eq_getElem?_getD]
                have ne : e' ≠ e := fun y => ej (inj _ _ e hej (by rw [← y]; exact he'))
                show upd G2 e _ e' = _
                rw [upd_ne ne]
                exact sx e' _ ne (he j e' he')
        · obtain ⟨v1, e1, p1, ys, e2, hs, v2, e3, i1, j1, e4, e5, k1, e6, h⟩ := h
          refine ⟨v1, e1, p1, ys, e2, hs, v2, e3, i1, j1, e4, e5, k1, e6, hQ _ _ h⟩
      · obtain ⟨x3, x4, x5, x6, rfl, s, hD, he⟩ := p
        refine ⟨_, rfl, q G D s nD ⟨es, hD, ?_, fun r hr => ⟨(hes r hr).2.2, (hes r hr).2.1⟩⟩⟩
        rw [List.take_of_length_le (by rw [hT.len]; exact Nat.le_refl _)] at he
        refine a2_at (d := []) (by rw [List.length_map]; unfold erow; rw [efold_len, List.length_replicate]; exact hn) fun j e hj => ?_
        rw [he j e hj]
        simp only [List.getD_eq_getElem?_getD, List.getElem?_map]
        cases (erow many l.ts)[j]? <;> rfl
end
-- P4
section
variable {P : Program} {w : World} {K : PySem.W.Frag} {mg : Str → Option Value} {base : Heap}
/-- a new row of new lists, none of which is a row -/
def TabR (H1 : Hp) (D : Addr) (rs : List Addr) (H : Hp) (r : Addr) (row : List (List V)) : Prop := H1 r = none ∧ r ≠ D ∧ ∃ es : List Addr, H r = some (.lst (es.map V.ref)) ∧ A2 (fun e x => H e = some (.lst x)) es row ∧ ∀ e ∈ es, H1 e = none ∧ e ≠ D ∧ e ∉ rs
theorem a2_mem {α β : Type} {R S : α → β → Prop} : ∀ {as : List α} {bs : List β}, A2 R as bs → (∀ a b, a ∈ as → R a b → S a b) → A2 S as bs
  | _, _, .nil, _ => .nil
  | _, _, .cons h t, f => .cons (f _ _ List.mem_cons_self h) (a2_mem t fun a b m => f a b (List.mem_cons_of_mem _ m))
theorem TabR.next {H1 H H' : Hp} {D r0 : Addr} {rs : List Addr} {r : Addr} {row : List (List V)} (h : TabR H1 D rs H r row) (s : SameX D H H') (n : H r0 = none) : TabR H1 D (rs ++ [r0]) H' r row := by
  obtain ⟨h1, h2, es, h3, h4, h5⟩ := h
  refine ⟨h1, h2, es, s _ _ h2 h3, a2_mem h4 fun e x m q => s _ _ (h5 e m).2.1 q, fun e m => ?_⟩
  obtain ⟨k1, k2, k3⟩ := h5 e m
  refine ⟨k1, k2, fun z => ?_⟩
  rcases List.mem_append.mp z with z | z
  · exact k3 z
  · simp at z
    subst z
    obtain ⟨x, _, q⟩ := h4.mem e m
    rw [n] at q
    cases q
theorem TabR.still {H1 H H' : Hp} {D : Addr} {rs : List Addr} {r : Addr} {row : List (List V)} (h : TabR H1 D rs H r row) (s : SameX D H H') : TabR H1 D rs H' r row := by
  obtain ⟨h1, h2, es, h3, h4, h5⟩ := h
  exact ⟨h1, h2, es, s _ _ h2 h3, a2_mem h4 fun e x m q => s _ _ (h5 e m).2.1 q, h5⟩
def fTab1 (many : Nat) (l : Lw) : Option (List (List V)) := if l.ex then some ((erow many l.ts).map fun ns => ns.map V.int) else none
def fTab (m : Mdl) : List (List (List V)) := m.ls.filterMap (fTab1 m.qs.length)
def spTabs (K : PySem.W.Frag) (f : Mdl → List (List (List V))) : Sp := fun vs H Q _ => ∃ (v : V) (m : Mdl), vs = [v] ∧ MD K H v m ∧ VM m ∧ ∀ H' p, Same H H' → H p = none → Tabs H H' p (f m) → Q (.ref p) H'
theorem ok_exact_table (T : Txt K mg) : FnOk P w K mg base CX0 4 T.exact_table.a T.exact_table.fd ["model"] (spTabs K fTab) := by
  refine T.exact_table.F.ok sc_exact_table (fun vs H Q E h => ?_) (fun cdv A outer s H vs Q E hr h => ?_)
  · obtain ⟨v, m, rfl, _⟩ := h
    rfl
  · obtain ⟨v, m, rfl, ⟨a, qa, r, xs, rfl, h1, h2, h3, h4⟩, vm, q⟩ := h
    refine ⟨_, (pss_cons (ps_asg (pv 0) (pg_tup rfl (pgs_cons (pg_name (i := 1) sc_exact_table.nd rfl (.inr rfl)) (pgs_cons (pg_name (i := 2) sc_exact_table.nd rfl (.inl rfl)) pgs_nil))))
      (pss_one (ps_ret (pe_lc (own := [("told", 3)]) rfl sc_exact_table.nd (pi_list (pv 2)) (blkOk_by (N := ["model", "quantities", "laws", "told"]) (sc := defScope s_exact_table) (by decide +kernel)) (fun _ _ _ _ _ => (pg_name (i := 3) sc_exact_table.nd rfl (.inl rfl))) (fun _ _ _ _ _ => (pts_one (pt_val (pe_call (ok_is_exact T) (hr.mono (by decide)) (by rfl) T.is_exact.g T.is_exact.F.kp T.is_exact.b .nil pass0 (pa_cons (pv 3) pa_nil))))) (fun _ _ _ _ _ => (pe_call (ok_exact_row T) (hr.mono (by decide)) (by rfl) T.exact_row.g T.exact_row.F.kp T.exact_row.b .nil pass0 (pa_cons (pv 3) (pa_cons (pe_callB (id := "len") (r := rLenS K) call_lenC (by rfl) T.m_len (by decide +kernel) (pa_cons (pv 1) pa_nil)) pa_nil)))))))), ?_⟩
    refine ⟨.ref a, rfl, a, _, rfl, h1, rfl, _, _, rfl, _, _, rfl, rfl, ?_⟩
    refine ⟨.ref r, rfl, r, rfl, ⟨xs, h3⟩, fun D nD => ?_⟩
    refine lc_inv (walk_list (xs := xs)) (fun i G ys => ∃ rs : List Addr, ys = rs.map V.ref ∧ Inj rs ∧ A2 (TabR H D rs G) rs ((m.ls.take i).filterMap (fTab1 m.qs.length))) nD (fun H' s => s.seq h3) (small' (by have := h4.len; have := vm.ls; omega)) ⟨[], rfl, (fun _ _ _ h => by simp at h), .nil⟩
      (fun i x G Hx ys hi sm hD hR y Qt Qf qt qf => ?_) (fun H' ys sm hD hR => ?_)
    · obtain ⟨rfl, hx⟩ := y
      obtain ⟨l, hl, rl⟩ := h4.get hx
      obtain ⟨rs, rfl, inj, hA⟩ := hR
      have ft : (m.ls.take (i + 1)).filterMap (fTab1 m.qs.length) = (m.ls.take i).filterMap (fTab1 m.qs.length) ++ [l].filterMap (fTab1 m.qs.length) := by rw [take_snoc hl, List.filterMap_append]
      refine ⟨rfl, x, rfl, x, l, rfl, rl.same sm, _, rfl, ?_⟩
      cases e : l.ex with
      | false =>
        refine iteF (qf _ (Same.refl _) ⟨rs, rfl, inj, ?_⟩)
        rw [ft, show [l].filterMap (fTab1 m.qs.length) = [] by simp [fTab1, e], List.append_nil]
        exact hA
      | true =>
        refine iteT ⟨x, rfl, .ref qa, rfl, qa, _, rfl, .inl (sm.seq h2), x, l, m.qs.length, by rw [List.length_map]; rfl, rl.same sm, vm.ok l (mem_at hl), e, vm.qs.1, fun H4 p s4 np ⟨es, hp, ha, hf⟩ => ?_⟩
        have pD : p ≠ D := fun z => by rw [z, hD] at np; cases np
        refine qt _ _ s4 ⟨rs ++ [p], by rw [List.map_append]; rfl, inj.snoc (fun z => by obtain ⟨_, _, _, _, _, y, _⟩ := hA.mem p z; rw [np] at y; cases y), ?_⟩
        rw [ft, show [l].filterMap (fTab1 m.qs.length) = [(erow m.qs.length l.ts).map fun ns => ns.map V.int] by simp [fTab1, e]]
        refine A2.snoc ⟨sm.free np, pD, es, by rw [upd_ne pD]; exact hp, a2_mem ha fun u x m q => ?_, fun u m => ?_⟩ (hA.mono fun _ _ z => z.next ((sx s4).trans SameX.put) np)
        · rw [upd_ne (fun z => by have := (hf u m).1; rw [z, hD] at this; cases this)]
          exact q
        · obtain ⟨k1, k2⟩ := hf u m
          refine ⟨sm.free k1, (fun z => by rw [z, hD] at k1; cases k1), fun z => ?_⟩
          rcases List.mem_append.mp z with z | z
          · obtain ⟨_, _, _, _, _, y, _⟩ := hA.mem u z
            rw [k1] at y
            cases y
          · simp at z
            exact k2 z
    · obtain ⟨rs, rfl, inj, hA⟩ := hR
      rw [List.take_of_length_le (by rw [h4.len]; exact Nat.le_refl _)] at hA
      exact q H' D sm nD ⟨rs, hD, (fun r hr => by obtain ⟨_, _, z1, z2, _⟩ := hA.mem r hr; exact ⟨z1, z2⟩), inj, hA.mono fun _ _ z => z.2.2⟩
/-! ### meetings -/
/-- the members in ascending order -/
def meet (many : Nat) (ps : List (Nat × Nat)) : List Int := ((List.range many).filter fun j => ps.any fun p => p.2 == j).map Int.ofNat
theorem asc_unique : ∀ {xs ys : List Int}, xs.Pairwise (· < ·) → ys.Pairwise (· < ·) → (∀ k : Int, k ∈ xs ↔ k ∈ ys) → xs = ys
  | [], [], _, _, _ => rfl
  | [], y :: ys, _, _, h => by have := (h y).mpr List.mem_cons_self; cases this
  | x :: xs, [], _, _, h => by have := (h x).mp List.mem_cons_self; cases this
  | x :: xs, y :: ys, hx, hy, h => by
    obtain ⟨hx1, hx2⟩ := List.pairwise_cons.mp hx
    obtain ⟨hy1, hy2⟩ := List.pairwise_cons.mp hy
    have e : x = y := by
      rcases List.mem_cons.mp ((h x).mp List.mem_cons_self) with z | z
      · exact z
      · rcases List.mem_cons.mp ((h y).mpr List.mem_cons_self) with u | u
        · exact u.symm
        · have a := hy1 x z
          have b := hx1 y u
          omega
    subst e
    rw [asc_unique hx2 hy2 fun k => ?_]
    constructor
    · intro m
      rcases List.mem_cons.mp ((h k).mp (List.mem_cons_of_mem _ m)) with z | z
      · subst z; have := hx1 k m; omega
      · exact z
    · intro m
      rcases List.mem_cons.mp ((h k).mpr (List.mem_cons_of_mem _ m)) with z | z
      · subst z; have := hy1 k m; omega
      · exact z
theorem nodup_le : ∀ (n : Nat) (xs : List Int), xs.Nodup → (∀ x ∈ xs, 0 ≤ x ∧ x < (n : Int)) → xs.length ≤ n
  | 0, [], _, _ => Nat.le_refl _
  | 0, x :: xs, _, h => by have := h x List.mem_cons_self; omega
  | n + 1, xs, hd, h => by
    have a := nodup_le n (xs.erase (n : Int)) (hd.erase _) fun x hx => by
      have m := List.mem_of_mem_erase hx
      have := h x m
      have ne : x ≠ (n : Int) := fun z => by rw [z] at hx; exact hd.not_mem_erase hx
      omega
    have b : xs.length ≤ (xs.erase (n : Int)).length + 1 := by rw [List.length_erase]; split <;> omega
    omega
theorem meet_asc (many : Nat) (ps : List (Nat × Nat)) : (meet many ps).Pairwise (· < ·) := by
  unfold meet
  rw [List.pairwise_map]
  refine List.Pairwise.imp (R := (· < ·)) (fun h => by show Int.ofNat _ < Int.ofNat _; exact Int.ofNat_lt.mpr h) ?_
  exact List.Pairwise.filter _ List.pairwise_lt_range
theorem mem_meet {many : Nat} {ps : List (Nat × Nat)} (h : ∀ p ∈ ps, p.2 < many) (k : Int) : k ∈ meet many ps ↔ ∃ p ∈ ps, k = (p.2 : Nat) := by
  unfold meet
  rw [List.mem_map]
  constructor
  · rintro ⟨j, hj, rfl⟩
    rw [List.mem_filter, List.any_eq_true] at hj
    obtain ⟨_, p, hp, e⟩ := hj
    exact ⟨p, hp, by rw [beq_iff_eq.mp e]; rfl⟩
  · rintro ⟨p, hp, rfl⟩
    refine ⟨p.2, ?_, rfl⟩
    rw [List.mem_filter, List.mem_range, List.any_eq_true]
    exact ⟨h p hp, p, hp, beq_self_eq_true _⟩
def fMeet1 (many : Nat) (l : Lw) : Option (List V) := if l.ex then none else some ((meet many l.places).map V.int)
def fMeet (m : Mdl) : List (List V) := m.ls.filterMap (fMeet1 m.qs.length)
end
-- P5
section
variable {P : Program} {w : World} {K : PySem.W.Frag} {mg : Str → Option Value} {base : Heap}
theorem ok_meetings (T : Txt K mg) : FnOk P w K mg base CX0 4 T.meetings.a T.meetings.fd ["model"] (spRows K fMeet) := by
  refine T.meetings.F.ok sc_meetings (fun vs H Q E h => ?_) (fun cdv A outer s H vs Q E hr h => ?_)
  · obtain ⟨v, m, rfl, _⟩ := h
    rfl
  · obtain ⟨v, m, rfl, ⟨a, qa, r, xs, rfl, h1, h2, h3, h4⟩, vm, q⟩ := h
    refine ⟨_, (pss_cons (ps_asg (pv 0) (pg_tup rfl (pgs_cons (pg_name (i := 1) sc_meetings.nd rfl (.inl rfl)) (pgs_cons (pg_name (i := 2) sc_meetings.nd rfl (.inl rfl)) pgs_nil))))
      (pss_one (ps_ret (pe_lc (own := [("told", 3)]) rfl sc_meetings.nd (pi_list (pv 2)) (blkOk_by (N := ["model", "_", "laws", "told", "j"]) (sc := defScope s_meetings) (by decide +kernel)) (fun _ _ _ _ _ => (pg_name (i := 3) sc_meetings.nd rfl (.inl rfl))) (fun _ _ _ _ _ => (pts_one (pt_not (pt_val (pe_call (ok_is_exact T) (hr.mono (by decide)) (by rfl) T.is_exact.g T.is_exact.F.kp T.is_exact.b .nil pass0 (pa_cons (pv 3) pa_nil)))))) (fun _ _ _ _ _ => (pe_callB (id := "sorted") (r := rSortedSet w) (cr_sortedSet rfl) (by rfl) T.m_sorted (by decide +kernel) (pa_cons (LS.pe_scI (w := w) rfl (wi := iList K _) (own := [("_", 1), ("j", 4)]) (g := gTup K 2 (gCons (gName 1) (gCons (gName 4) gNil))) rfl sc_meetings.nd (pi_list (pe_call (ok_places_of T) (hr.mono (by decide)) (by rfl) T.places_of.g T.places_of.F.kp T.places_of.b .nil pass0 (pa_cons (pv 3) pa_nil))) (blkOk_by (N := ["model", "_", "laws", "told", "j"]) (sc := { kind := .function, names := [(".0", .local), ("told", .local), ("is_exact", .globalImplicit), ("sorted", .globalImplicit), ("places_of", .globalImplicit)], isGenerator := false, isCoroutine := false, more := [] }) (by decide +kernel)) (fun _ _ _ _ _ => (pg_tup rfl (pgs_cons (pg_name (i := 1) sc_meetings.nd rfl (.inl rfl)) (pgs_cons (pg_name (i := 4) sc_meetings.nd rfl (.inl rfl)) pgs_nil)))) (fun _ _ _ _ _ => pts_nil) (fun _ _ _ _ _ => (pv 4))) pa_nil))))))), ?_⟩
    refine ⟨.ref a, rfl, a, _, rfl, h1, rfl, _, _, rfl, _, _, rfl, rfl, ?_⟩
    refine ⟨.ref r, rfl, r, rfl, ⟨xs, h3⟩, fun D nD => ?_⟩
    refine lc_fm (walk_list (xs := xs)) m.ls (fMeet1 m.qs.length) (RV H D) RV.mono h4.len.symm nD (fun H' s => s.seq h3) (small' (by have := h4.len; have := vm.ls; omega)) (fun i x H' Hx ys l hl sm hD y Qt Qf qt qf => ?_) (fun H' ys sm hD hR => ?_)
    · obtain ⟨rfl, hx⟩ := y
      obtain ⟨l', hl', rl⟩ := h4.get hx
      obtain rfl := Option.some.inj (hl.symm.trans hl')
      have vl := vm.ok l (mem_at hl)
      refine ⟨rfl, x, rfl, x, l, rfl, rl.same sm, _, rfl, ?_⟩
      cases e : l.ex with
      | true => exact iteF (qf (by unfold fMeet1; rw [e]; rfl) _ (Same.refl _))
      | false =>
        refine iteT ⟨x, rfl, x, l, rfl, rl.same sm, Nat.le_trans vl.many (by decide), fun H4 c s4 nc ⟨zs, hc, hP⟩ => ?_⟩
        refine ⟨c, rfl, ⟨zs, .of hc⟩, fun S nS => ?_⟩
        have cS : c ≠ S := fun z => by rw [z, nS] at hc; cases hc
        refine LS.sc_list (xs := zs) (fun i G => SameX S H4 G ∧ ∃ (ns : List Int) (f : Int → Bool), G S = some (SetO w S f ns.length) ∧ (∀ k, f k = true ↔ k ∈ ns) ∧ ns.Nodup ∧ ∀ k, k ∈ ns ↔ ∃ p ∈ l.places.take i, k = (p.2 : Nat))
          ⟨SameX.put, [], fun _ => false, upd_same, fun k => by simp, List.nodup_nil, fun k => by simp⟩ (fun i G _ p => seqL_x cS p.1 (.of hc)) (fun i x G hx p => ?_) (fun G p => ?_)
        · obtain ⟨sg, ns, f, hS, hf, nd, hm⟩ := p
          obtain ⟨pl, hp, b, rfl, hb⟩ := hP.get hx
          have hb2 : SqT K G b [.int (pl.1 : Nat), .int (pl.2 : Nat)] := by
            rcases hb with (h | ⟨o, h⟩) | h
            · exact .inl (.inl (sg _ _ (fun z => by rw [z, nS] at h; cases h) h))
            · exact .inl (.inr ⟨o, sg _ _ (fun z => by rw [z, nS] at h; cases h) h⟩)
            · exact .inr h
          have hle : ns.length ≤ m.qs.length := nodup_le _ _ nd fun k hk => by
            obtain ⟨p, hp, rfl⟩ := (hm k).mp hk
            have := (vl.place p (List.mem_of_mem_take hp)).2
            omega
          refine ⟨b, _, rfl, hb2, rfl, _, _, rfl, _, _, rfl, rfl, rfl, _, rfl, (pl.2 : Nat), f, ns.length, rfl, hS, Nat.lt_of_le_of_lt (Nat.succ_le_succ (Nat.le_trans hle vm.qs.1)) (by decide), sg.trans SameX.put, ?_⟩
          by_cases hk : f (pl.2 : Nat) = true
          · refine ⟨ns, fun j => f j || decide (j = (pl.2 : Nat)), (by rw [upd_same]; unfold LS.sP; rw [if_pos hk]), fun k => ?_, nd, fun k => ?_⟩
            · rw [Bool.or_eq_true, decide_eq_true_iff, hf]
              exact ⟨fun z => z.elim id fun e => by rw [e]; exact (hf _).mp hk, .inl⟩
            · rw [hm, take_snoc hp]
              constructor
              · rintro ⟨p, hp, e⟩; exact ⟨p, List.mem_append_left _ hp, e⟩
              · rintro ⟨p, hp, e⟩
                rcases List.mem_append.mp hp with hp | hp
                · exact ⟨p, hp, e⟩
                · simp at hp
                  subst hp
                  rw [e]
                  exact (hm _).mp ((hf _).mp hk)
          · refine ⟨ns ++ [((pl.2 : Nat) : Int)], fun j => f j || decide (j = (pl.2 : Nat)), (by rw [upd_same]; unfold LS.sP; rw [if_neg hk, List.length_append]; rfl), fun k => ?_, ?_, fun k => ?_⟩
            · rw [Bool.or_eq_true, decide_eq_true_iff, hf, List.mem_append, List.mem_singleton]
            · rw [List.nodup_append]
              refine ⟨nd, by simp, fun x hx y hy => ?_⟩
              simp at hy
              subst hy
              exact fun z => hk ((hf _).mpr (by rw [← z]; exact hx))
            · rw [List.mem_append, List.mem_singleton, hm, take_snoc hp]
              constructor
              · rintro (⟨p, hp, e⟩ | e)
                · exact ⟨p, List.mem_append_left _ hp, e⟩
                · exact ⟨pl, by simp, e⟩
              · rintro ⟨p, hp, e⟩
                rcases List.mem_append.mp hp with hp | hp
                · exact .inl ⟨p, hp, e⟩
                · simp at hp
                  subst hp
                  exact .inr e
        · obtain ⟨sg, ns, f, hS, hf, nd, hm⟩ := p
          rw [List.take_of_length_le (by rw [hP.len]; exact Nat.le_refl _)] at hm
          have hle : ns.length ≤ m.qs.length := nodup_le _ _ nd fun k hk => by
            obtain ⟨p, hp, rfl⟩ := (hm k).mp hk
            have := (vl.place p hp).2
            omega
          refine ⟨S, f, ns.length, rfl, hS, Nat.lt_of_le_of_lt (Nat.le_trans hle vm.qs.1) (by decide), fun os p asc mem len np => ?_⟩
          have eo : os = meet m.qs.length l.places := asc_unique asc (meet_asc _ _) fun k => by
            rw [mem, hf, hm, mem_meet fun p hp => (vl.place p hp).2]
          have s5 : Same Hx G := fun a o h => sg a o (fun z => by
            have := s4 _ _ h
            rw [z, nS] at this
            cases this) (s4 _ _ h)
          have pD : p ≠ D := fun z => by rw [z, s5 _ _ hD] at np; cases np
          refine qt _ _ _ (by unfold fMeet1; rw [e]; rfl) (s5.trans (same_upd np)) ⟨p, rfl, (sm.trans s5).free np, pD, ?_⟩
          rw [upd_same, eo]
    · obtain ⟨rs, e, ha, hf⟩ := rows_of hR
      exact q H' D sm nD ⟨rs, by rw [hD, e], ha, hf⟩
end
-- P6
section
variable {J J1 : It} {n : Nat} {G : Hp → Prop} {Y : Nat → Hp → V → Hp → Prop} {g g1 : TG} {tt tt1 : TT} {te : TE} {vs vs1 : List Nat} {σ σ2 : L2.St} {H1 H4 : Hp} {D : Addr} {wi1 : TI}
/-- what the second clause wants, on its way to Nx -/
abbrev In2 (J1 : It) (g1 : TG) (tt1 : TT) (te : TE) (vs1 : List Nat) (D : Addr) (Nx : Hp → Prop) (σ2 : L2.St) (H4 : Hp) : Prop :=
  ∃ W1 : Nat → Nat → Hp → Prop, (∃ m, W1 0 m H4) ∧ ∀ j k H, W1 j k H → (J1.stop j H ∧ Nx H) ∨ (J1.go j H ∧ ∃ Nx1 : Hp → Prop, (∀ H', Nx1 H' → ∃ k', k' < k ∧ W1 (j + 1) k' H') ∧ ∀ x H', J1.yld j H x H' → g1 x (wipe σ2 vs1) H' fun σ3 H5 => wipe σ3 vs1 = wipe σ2 vs1 ∧ tt1 σ3 H5 fun b H6 =>
    if b = true then te σ3 H6 fun y H7 => ∃ acc, H7 D = some (.lst acc) ∧ acc.length < sizeLine ∧ Nx1 (upd H7 D (.lst (acc ++ [y]))) else Nx1 H6)
theorem lc2_in {Nx : Hp → Prop} (w : Walk J1 n G Y) (Pv : Nat → Hp → Prop) (h0 : Pv 0 H4) (hG : ∀ j H, Pv j H → G H)
    (hs : ∀ j x H H', j < n → Pv j H → Y j H x H' → g1 x (wipe σ2 vs1) H' fun σ3 H5 => wipe σ3 vs1 = wipe σ2 vs1 ∧ tt1 σ3 H5 fun b H6 =>
      if b = true then te σ3 H6 fun y H7 => ∃ acc, H7 D = some (.lst acc) ∧ acc.length < sizeLine ∧ Pv (j + 1) (upd H7 D (.lst (acc ++ [y]))) else Pv (j + 1) H6) (hd : ∀ H, Pv n H → Nx H) : In2 J1 g1 tt1 te vs1 D Nx σ2 H4 := by
  refine ⟨fun j k H => k + j = n ∧ Pv j H, ⟨n, rfl, h0⟩, fun j k H ⟨e, p⟩ => ?_⟩
  rcases Nat.lt_or_ge j n with lt | ge
  · exact .inr ⟨w.goes j H lt (hG j H p), Pv (j + 1), fun H' p' => ⟨k - 1, by omega, by omega, p'⟩, fun x H' y => hs j x H H' lt p (w.yields j H x H' lt (hG j H p) y)⟩
  · obtain rfl : j = n := by omega
    exact .inl ⟨w.stops H (hG j H p), hd H p⟩
theorem lc2_out {Qd : Hp → Prop} (w : Walk J n G Y) (Pv : Nat → Hp → Prop) (h0 : Pv 0 (upd H1 D (.lst []))) (hG : ∀ j H, Pv j H → G H)
    (hs : ∀ i x H H', i < n → Pv i H → Y i H x H' → g x (wipe σ vs) H' fun σ2 H2 => wipe σ2 vs = wipe σ vs ∧ tt σ2 H2 fun b H3 =>
      if b = true then wi1 σ2 H3 fun J1 H4 => In2 J1 g1 tt1 te vs1 D (Pv (i + 1)) σ2 H4 else Pv (i + 1) H3) (hd : ∀ H, Pv n H → Qd H) :
    ∃ W : Nat → Nat → Hp → Prop, (∃ m, W 0 m (upd H1 D (.lst []))) ∧ ∀ i m H, W i m H → (J.stop i H ∧ Qd H) ∨ (J.go i H ∧ ∃ Nx : Hp → Prop, (∀ H', Nx H' → ∃ m', m' < m ∧ W (i + 1) m' H') ∧ ∀ x H', J.yld i H x H' → g x (wipe σ vs) H' fun σ2 H2 => wipe σ2 vs = wipe σ vs ∧ tt σ2 H2 fun b H3 =>
      if b = true then wi1 σ2 H3 fun J1 H4 => In2 J1 g1 tt1 te vs1 D Nx σ2 H4 else Nx H3) := by
  refine ⟨fun j k H => k + j = n ∧ Pv j H, ⟨n, rfl, h0⟩, fun j k H ⟨e, p⟩ => ?_⟩
  rcases Nat.lt_or_ge j n with lt | ge
  · exact .inr ⟨w.goes j H lt (hG j H p), Pv (j + 1), fun H' p' => ⟨k - 1, by omega, by omega, p'⟩, fun x H' y => hs j x H H' lt p (w.yields j H x H' lt (hG j H p) y)⟩
  · obtain rfl : j = n := by omega
    exact .inl ⟨w.stops H (hG j H p), hd H p⟩
end
section
variable {P : Program} {w : World} {K : PySem.W.Frag} {mg : Str → Option Value} {base : Heap}
/-- the places of the laws of one kind, among the first i -/
def idx (b : Bool) (ls : List Lw) (i : Nat) : List Int := ((List.range i).filter fun j => decide ((ls[j]?).map Lw.ex = some b)).map Int.ofNat
theorem idx_yes {b : Bool} {ls : List Lw} {i : Nat} {l : Lw} (h : ls[i]? = some l) (e : l.ex = b) : idx b ls (i + 1) = idx b ls i ++ [((i : Nat) : Int)] := by
  unfold idx
  rw [List.range_succ, List.filter_append, List.map_append, List.filter_cons_of_pos (by rw [h]; simp [e])]; rfl
theorem idx_no {b : Bool} {ls : List Lw} {i : Nat} {l : Lw} (h : ls[i]? = some l) (e : l.ex ≠ b) : idx b ls (i + 1) = idx b ls i := by
  unfold idx
  rw [List.range_succ, List.filter_append, List.map_append, List.filter_cons_of_neg (by rw [h]; simp [e])]; simp
def spFlat (K : PySem.W.Frag) (f : Mdl → List V) : Sp := fun vs H Q _ => ∃ (v : V) (m : Mdl), vs = [v] ∧ MD K H v m ∧ VM m ∧ ∀ H' p, Same H H' → H p = none → H' p = some (.lst (f m)) → Q (.ref p) H'
def fIdx (b : Bool) (m : Mdl) : List V := (idx b m.ls m.ls.length).map V.int
theorem ok_exact_laws (T : Txt K mg) : FnOk P w K mg base CX0 2 T.exact_laws.a T.exact_laws.fd ["model"] (spFlat K (fIdx true)) := by
  refine T.exact_laws.F.ok sc_exact_laws (fun vs H Q E h => ?_) (fun cdv A outer s H vs Q E hr h => ?_)
  · obtain ⟨v, m, rfl, _⟩ := h
    rfl
  · obtain ⟨v, m, rfl, ⟨a, qa, r, xs, rfl, h1, h2, h3, h4⟩, vm, q⟩ := h
    refine ⟨_, (pss_cons (ps_asg (pv 0) (pg_tup rfl (pgs_cons (pg_name (i := 1) sc_exact_laws.nd rfl (.inl rfl)) (pgs_cons (pg_name (i := 2) sc_exact_laws.nd rfl (.inl rfl)) pgs_nil))))
      (pss_one (ps_ret (pe_lc (own := [("i", 3), ("told", 4)]) (g := gTup K 2 (gCons (gName 3) (gCons (gName 4) gNil))) rfl sc_exact_laws.nd (pi_enum (by rfl) T.m_enumerate (pa_cons (pv 2) pa_nil)) (blkOk_by (N := ["model", "_", "laws", "i", "told"]) (sc := defScope s_exact_laws) (by decide +kernel)) (fun _ _ _ _ _ => (pg_tup rfl (pgs_cons (pg_name (i := 3) sc_exact_laws.nd rfl (.inl rfl)) (pgs_cons (pg_name (i := 4) sc_exact_laws.nd rfl (.inl rfl)) pgs_nil)))) (fun _ _ _ _ _ => (pts_one (pt_val (pe_call (ok_is_exact T) (hr.mono (by decide)) (by rfl) T.is_exact.g T.is_exact.F.kp T.is_exact.b .nil pass0 (pa_cons (pv 4) pa_nil))))) (fun _ _ _ _ _ => (pv 3)))))), ?_⟩
    refine ⟨.ref a, rfl, a, _, rfl, h1, rfl, _, _, rfl, _, _, rfl, rfl, ?_⟩
    refine ⟨.ref r, rfl, r, xs, rfl, h3, fun D nD => ?_⟩
    refine lc_inv (walk_enum (xs := xs)) (fun i G ys => ys = (idx true m.ls i).map V.int) nD (fun H' s => s.seq h3) (small' (by have := h4.len; have := vm.ls; omega)) rfl (fun i x G Hx ys hi sm hD hR y Qt Qf qt qf => ?_) (fun H' ys sm hD hR => ?_)
    · obtain ⟨T', i', x', rfl, nT, rfl, e1, hx⟩ := y
      obtain rfl := Option.some.inj e1
      obtain ⟨l, hl, rl⟩ := h4.get hx
      refine ⟨T', _, rfl, .of upd_same, rfl, _, _, rfl, _, _, rfl, rfl, rfl, x', rfl, x', l, rfl, rl.same (sm.trans (same_upd nT)), _, rfl, ?_⟩
      cases e : l.ex with
      | true =>
        refine iteT ⟨_, rfl, qt _ _ (same_upd nT) ?_⟩
        rw [idx_yes hl e, List.map_append, hR]; rfl
      | false =>
        refine iteF (qf _ (same_upd nT) ?_)
        rw [idx_no hl (by rw [e]; decide), hR]
    · refine q H' D sm nD ?_
      rw [hD, hR, h4.len]; rfl
theorem ok_sized_laws (T : Txt K mg) : FnOk P w K mg base CX0 2 T.sized_laws.a T.sized_laws.fd ["model"] (spFlat K (fIdx false)) := by
  refine T.sized_laws.F.ok sc_sized_laws (fun vs H Q E h => ?_) (fun cdv A outer s H vs Q E hr h => ?_)
  · obtain ⟨v, m, rfl, _⟩ := h
    rfl
  · obtain ⟨v, m, rfl, ⟨a, qa, r, xs, rfl, h1, h2, h3, h4⟩, vm, q⟩ := h
    refine ⟨_, (pss_cons (ps_asg (pv 0) (pg_tup rfl (pgs_cons (pg_name (i := 1) sc_sized_laws.nd rfl (.inl rfl)) (pgs_cons (pg_name (i := 2) sc_sized_laws.nd rfl (.inl rfl)) pgs_nil))))
      (pss_one (ps_ret (pe_lc (own := [("i", 3), ("told", 4)]) (g := gTup K 2 (gCons (gName 3) (gCons (gName 4) gNil))) rfl sc_sized_laws.nd (pi_enum (by rfl) T.m_enumerate (pa_cons (pv 2) pa_nil)) (blkOk_by (N := ["model", "_", "laws", "i", "told"]) (sc := defScope s_sized_laws) (by decide +kernel)) (fun _ _ _ _ _ => (pg_tup rfl (pgs_cons (pg_name (i := 3) sc_sized_laws.nd rfl (.inl rfl)) (pgs_cons (pg_name (i := 4) sc_sized_laws.nd rfl (.inl rfl)) pgs_nil)))) (fun _ _ _ _ _ => (pts_one (pt_not (pt_val (pe_call (ok_is_exact T) (hr.mono (by decide)) (by rfl) T.is_exact.g T.is_exact.F.kp T.is_exact.b .nil pass0 (pa_cons (pv 4) pa_nil)))))) (fun _ _ _ _ _ => (pv 3)))))), ?_⟩
    refine ⟨.ref a, rfl, a, _, rfl, h1, rfl, _, _, rfl, _, _, rfl, rfl, ?_⟩
    refine ⟨.ref r, rfl, r, xs, rfl, h3, fun D nD => ?_⟩
    refine lc_inv (walk_enum (xs := xs)) (fun i G ys => ys = (idx false m.ls i).map V.int) nD (fun H' s => s.seq h3) (small' (by have := h4.len; have := vm.ls; omega)) rfl (fun i x G Hx ys hi sm hD hR y Qt Qf qt qf => ?_) (fun H' ys sm hD hR => ?_)
    · obtain ⟨T', i', x', rfl, nT, rfl, e1, hx⟩ := y
      obtain rfl := Option.some.inj e1
      obtain ⟨l, hl, rl⟩ := h4.get hx
      refine ⟨T', _, rfl, .of upd_same, rfl, _, _, rfl, _, _, rfl, rfl, rfl, x', rfl, x', l, rfl, rl.same (sm.trans (same_upd nT)), _, rfl, ?_⟩
      cases e : l.ex with
      | false =>
        refine iteT ⟨_, rfl, qt _ _ (same_upd nT) ?_⟩
        rw [idx_yes hl e, List.map_append, hR]; rfl
      | true =>
        refine iteF (qf _ (same_upd nT) ?_)
        rw [idx_no hl (by rw [e]; decide), hR]
    · refine q H' D sm nD ?_
      rw [hD, hR, h4.len]; rfl
def fSizes (m : Mdl) : List V := m.ls.flatMap fun l => l.heads.map vH
theorem sizes_len {ls : List Lw} (h : ∀ l ∈ ls, l.ts.length ≤ 130) : (ls.flatMap fun l => l.heads.map vH).length ≤ 130 * ls.length := by
  induction ls with
  | nil => exact Nat.le_refl _
  | cons l r ih =>
    rw [List.flatMap_cons, List.length_append, List.length_map, List.length_cons]
    have a := ih fun x hx => h x (List.mem_cons_of_mem _ hx)
    have b : l.heads.length ≤ 130 := by
      have := h l List.mem_cons_self
      unfold Lw.heads
      split
      · exact Nat.zero_le _
      · rw [List.length_map]; exact this
    omega
theorem ok_sizes_of (T : Txt K mg) : FnOk P w K mg base CX0 3 T.sizes_of.a T.sizes_of.fd ["model"] (spFlat K fSizes) := by
  refine T.sizes_of.F.ok sc_sizes_of (fun vs H Q E h => ?_) (fun cdv A outer s H vs Q E hr h => ?_)
  · obtain ⟨v, m, rfl, _⟩ := h
    rfl
  · obtain ⟨v, m, rfl, ⟨a, qa, r, xs, rfl, h1, h2, h3, h4⟩, vm, q⟩ := h
    refine ⟨_, (pss_cons (ps_asg (pv 0) (pg_tup rfl (pgs_cons (pg_name (i := 1) sc_sizes_of.nd rfl (.inl rfl)) (pgs_cons (pg_name (i := 2) sc_sizes_of.nd rfl (.inl rfl)) pgs_nil))))
      (pss_one (ps_ret (pe_lc2 (wi1 := iList K _) (own := [("told", 3), ("size", 4)]) (vs1 := [4]) rfl sc_sizes_of.nd (pi_list (pv 2)) (blkOk_by (N := ["model", "_", "laws", "told", "size"]) (sc := defScope s_sizes_of) (by decide +kernel)) (by decide) (fun _ _ _ _ _ => (pg_name (i := 3) sc_sizes_of.nd rfl (.inl rfl))) (fun _ _ _ _ _ => pts_nil) (fun _ _ _ _ _ => (pi_list (pe_call (ok_sizes_in T) (hr.mono (by decide)) (by rfl) T.sizes_in.g T.sizes_in.F.kp T.sizes_in.b .nil pass0 (pa_cons (pv 3) pa_nil)))) (fun _ _ _ _ _ => (pg_name (i := 4) sc_sizes_of.nd rfl (.inl rfl))) (fun _ _ _ _ _ => pts_nil) (fun _ _ _ _ _ => (pv 4)))))), ?_⟩
    refine ⟨.ref a, rfl, a, _, rfl, h1, rfl, _, _, rfl, _, _, rfl, rfl, ?_⟩
    refine ⟨.ref r, rfl, r, rfl, ⟨xs, h3⟩, fun D nD => ?_⟩
    refine lc2_out (walk_list (xs := xs)) (fun i G => Same H G ∧ G D = some (.lst ((m.ls.take i).flatMap fun l => l.heads.map vH))) ⟨same_upd nD, upd_same⟩ (fun _ _ p => p.1.seq h3) (fun i x G Hx hi p y => ?_) (fun G p => ?_)
    · obtain ⟨sm, hD⟩ := p
      obtain ⟨rfl, hx⟩ := y
      obtain ⟨l, hl, rl⟩ := h4.get hx
      have vl := vm.ok l (mem_at hl)
      have tk : (m.ls.take (i + 1)).flatMap (fun l => l.heads.map vH) = (m.ls.take i).flatMap (fun l => l.heads.map vH) ++ l.heads.map vH := by rw [take_snoc hl, List.flatMap_append, List.flatMap_singleton]
      refine ⟨rfl, x, rfl, x, l, rfl, rl.same sm, Nat.le_trans vl.many (by decide), fun H5 p s5 np hp => ?_⟩
      refine ⟨p, rfl, ⟨_, .of hp⟩, ?_⟩
      have pD : p ≠ D := fun z => by rw [z, hD] at np; cases np
      refine lc2_in (walk_list (xs := l.heads.map vH)) (fun j G => Same H G ∧ G p = some (.lst (l.heads.map vH)) ∧ G D = some (.lst ((m.ls.take i).flatMap (fun l => l.heads.map vH) ++ (l.heads.map vH).take j))) ⟨sm.trans s5, hp, by rw [List.take_zero, List.append_nil]; exact s5 _ _ hD⟩ (fun _ _ p => .of p.2.1) (fun j y G G' hj p yy => ?_) (fun G p => ?_)
      · obtain ⟨sg, hp, hD⟩ := p
        obtain ⟨rfl, hy⟩ := yy
        refine ⟨rfl, y, rfl, _, hD, ?_, same_over sg nD, (by rw [upd_ne pD]; exact hp), (by rw [upd_same, take_snoc hy, List.append_assoc])⟩
        have a1 : ((m.ls.take i).flatMap fun l => l.heads.map vH).length ≤ 130 * (m.ls.take i).length := sizes_len fun l hl => (vm.ok l (List.mem_of_mem_take hl)).many
        have a2 : (m.ls.take i).length ≤ 40 := Nat.le_trans (by rw [List.length_take]; exact Nat.min_le_right _ _) vm.ls
        have a3 : l.heads.length ≤ 130 := by
          have := vl.many
          unfold Lw.heads
          split
          · exact Nat.zero_le _
          · rw [List.length_map]; exact this
        refine small' ?_
        rw [List.length_append, List.length_take, List.length_map]
        omega
      · obtain ⟨sg, _, hD⟩ := p
        rw [List.take_length] at hD
        exact ⟨sg, by rw [tk]; exact hD⟩
    · obtain ⟨sm, hD⟩ := p
      rw [List.take_of_length_le (by rw [h4.len]; exact Nat.le_refl _)] at hD
      exact q G D sm nD hD
end
-- P7
section
variable {P : Program} {w : World} {K : PySem.W.Frag} {mg : Str → Option Value} {base : Heap}
/-! ### what a law draws -/
def cf (ns : List Int) (m : Nat) : Int := ns.getD m 0
theorem at_map' {ns : List Int} {i : Int} {m : Nat} (e : i = (m : Int)) (h : m < ns.length) : atI (ns.map V.int) i = some (V.int (cf ns m)) := by
  rw [e]
  refine atI_nat ?_
  rw [List.getElem?_map, at_getD (d := 0) h]; rfl
def sp_law_draws (K : PySem.W.Frag) : Sp := fun vs H Q _ => ∃ (a : Addr) (ns : List Int), vs = [.ref a] ∧ SqL K H a (ns.map V.int) ∧ ns.length ≤ 63 ∧ ∀ H' p ds, Same H H' → H p = none → IL H' p ds → Q (.ref p) H'
theorem ok_law_draws (T : Txt K mg) : FnOk P w K mg base CX0 1 T.law_draws.a T.law_draws.fd ["script"] (sp_law_draws K) := by
  refine T.law_draws.F.ok sc_law_draws (fun vs H Q E h => ?_) (fun cdv A outer s H vs Q E hr h => ?_)
  · obtain ⟨a, ns, rfl, _⟩ := h
    rfl
  · obtain ⟨a, ns, rfl, ha, hl, q⟩ := h
    refine ⟨_, (pss_cons (ps_set (i := 1) sc_law_draws.nd rfl (.inl rfl) (pe_lst pa_nil))
      (pss_cons (ps_for PassesOwn.never rfl (pi_range1 (by rfl) T.m_range (pa_cons (pe_callB (call_min2 rfl) (by rfl) T.m_min (by decide +kernel) (pa_cons pe_int (pa_cons (pe_callB call_len_seq (by rfl) T.m_len (by decide +kernel) (pa_cons (pv 0) pa_nil)) pa_nil))) pa_nil)) (pg_name (i := 2) sc_law_draws.nd rfl (.inl rfl))
        (pss_cons (ps_set (i := 3) sc_law_draws.nd rfl (.inl rfl) (pe_callB call_abs (by rfl) T.m_abs (by decide +kernel) (pa_cons (pe_ix ix_list (pv 0) (pv 2) (fun _ _ => rfl)) pa_nil)))
        (pss_one (ps_if (pt_cmpR op_ge (pv 3) (pe_op op_pow pe_int pe_int) (nomark _))
          (pss_one (ps_for PassesOwn.never rfl (pi_range1 (by rfl) T.m_range (pa_cons pe_int pa_nil)) (pg_name (i := 4) sc_law_draws.nd rfl (.inl rfl))
            (pss_one (ps_if (pt_cmpR op_gt (pv 3) pe_int (nomark _))
              (pss_cons (ps_expr (pe_bm PySem.F.plainAttrs_list PySem.F.slot_list_append PySem.F.type_list_append mt_append (pv 1) (pa_cons (pe_op op_mod (pe_callTy call_int1 (by rfl) T.m_int (by decide +kernel) (pa_cons (pv 3) pa_nil)) pe_int) pa_nil)))
              (pss_one (ps_set (i := 3) sc_law_draws.nd rfl (.inl rfl) (pe_op op_fdiv (pv 3) pe_int))))
              pss_nil))))
          (pss_cons (ps_set (i := 5) sc_law_draws.nd rfl (.inl rfl) (pe_op op_mod (pe_callTy call_int1 (by rfl) T.m_int (by decide +kernel) (pa_cons (pe_op op_add (pe_op op_mul (pv 3) pe_int) (pe_op op_mul (pe_op op_add (pv 2) pe_int) pe_int)) pa_nil)) pe_int))
          (pss_cons (ps_set (i := 5) sc_law_draws.nd rfl (.inl rfl) (pe_op op_mod (pe_callTy call_int1 (by rfl) T.m_int (by decide +kernel) (pa_cons (pe_op op_add (pe_op op_add (pe_op op_mul (pv 5) pe_int) (pe_op op_mul pe_int (pv 2))) pe_int) pa_nil)) pe_int))
          (pss_cons (ps_expr (pe_bm PySem.F.plainAttrs_list PySem.F.slot_list_append PySem.F.type_list_append mt_append (pv 1) (pa_cons (pe_op op_mod (pe_callTy call_int1 (by rfl) T.m_int (by decide +kernel) (pa_cons (pv 5) pa_nil)) pe_int) pa_nil)))
          (pss_one (ps_expr (pe_bm PySem.F.plainAttrs_list PySem.F.slot_list_append PySem.F.type_list_append mt_append (pv 1) (pa_cons (pe_op op_mod (pe_callTy call_int1 (by rfl) T.m_int (by decide +kernel) (pa_cons (pe_op op_fdiv (pv 5) pe_int) pa_nil)) pe_int) pa_nil)))))))))))
      (pss_one (ps_ret (pv 1))))), ?_⟩
    refine ⟨Nat.zero_le _, fun p hp => ?_⟩
    have s0 := same_upd (o := .lst []) hp
    obtain ⟨L, hL, eL⟩ : ∃ L : Nat, L ≤ ns.length ∧ L ≤ 63 ∧ (if ((ns.map V.int).length : Int) < 63 then ((ns.map V.int).length : Int) else 63) = (L : Int) := by
      refine ⟨min ns.length 63, Nat.min_le_left _ _, Nat.min_le_right _ _, ?_⟩
      rw [List.length_map]
      split <;> omega
    refine ⟨.ref a, rfl, a, _, rfl, .inl (s0.seq ha), 63, _, rfl, (L : Int), congrArg (fun z => [V.int z]) eL.2, by omega, by omega, ?_⟩
    refine for_range (n := (L : Int).toNat) (lo := 0) (fun i σ H' => Same H H' ∧ ∃ ds v2 v3 v4 v5, σ = [some (.ref a), some (.ref p), v2, v3, v4, v5] ∧ IL H' p ds ∧ ds.length ≤ 60 * i) ⟨s0, [], none, none, none, none, rfl, upd_same, Nat.zero_le _⟩ (fun i σ H' hi hP => ?_) (fun σ H' hP => ?_)
    · obtain ⟨sm, ds, v2, v3, v4, v5, rfl, hd, hn⟩ := hP
      have hi' : i < ns.length := by omega
      refine ⟨.ref a, rfl, _, rfl, a, _, _, _, rfl, rfl, sm.seq ha, at_map' (m := i) (by omega) hi', _, rfl, ?_⟩
      obtain ⟨r, hr1, er⟩ : ∃ r : Int, 0 ≤ r ∧ (if cf ns i < 0 then -cf ns i else cf ns i) = r := ⟨_, by split <;> omega, rfl⟩
      rw [er]
      refine ⟨_, rfl, _, _, rfl, rfl, ⟨by decide, by decide, by decide⟩, _, _, rfl, rfl, _, rfl, ?_⟩
      refine ite2 (fun _ => ?_) (fun hlt => ?_)
      · refine ⟨60, rfl, by decide, by decide, ?_⟩
        refine for_range (n := 60) (lo := 0) (fun j σ H' => Same H H' ∧ ∃ ds v2 v4 v5 r, σ = [some (.ref a), some (.ref p), v2, some (.int r), v4, v5] ∧ 0 ≤ r ∧ IL H' p ds ∧ ds.length ≤ 60 * i + j) ⟨sm, ds, _, _, _, r, rfl, hr1, hd, hn⟩ (fun j σ H' hj hP => ?_) (fun σ H' hP => ?_)
        · obtain ⟨sm, ds, v2, v4, v5, r, rfl, hr1, hd, hn⟩ := hP
          refine ⟨_, rfl, _, _, rfl, rfl, _, rfl, ?_⟩
          refine ite2 (fun _ => ?_) (fun _ => ⟨sm, ds, _, _, _, r, rfl, hr1, hd, by omega⟩)
          refine ⟨.ref p, rfl, .inl ⟨rfl, _, hd.sq⟩, _, rfl, .inl ⟨_, rfl, _, _, rfl, rfl, (by show (0 : Int) < _; decide), p, _, _, rfl, rfl, hd, by rw [List.length_map]; exact small' (by omega), ?_⟩⟩
          rw [app_ints]
          refine ⟨_, rfl, _, _, rfl, rfl, ⟨by decide, by decide⟩, ?_⟩
          exact ⟨same_over sm hp, _, _, _, _, _, rfl, by omega, il_upd, by rw [List.length_append]; show _ + 1 ≤ _; omega⟩
        · obtain ⟨sm, ds, v2, v4, v5, r, rfl, hr1, hd, hn⟩ := hP
          exact ⟨sm, ds, _, _, _, _, rfl, hd, by omega⟩
      · have hr2 : r < 10 ^ 18 := by
          have e : ((10 : Int) ^ (18 : Int).toNat) = 10 ^ 18 := rfl
          rw [e] at hlt
          have := of_decide_eq_false (Bool.eq_false_iff.mpr hlt)
          omega
        refine ⟨_, rfl, _, _, rfl, rfl, .inl ⟨by omega, by omega⟩, _, rfl, _, _, rfl, rfl, _, _, rfl, rfl, .inr ⟨by decide, by decide⟩, _, _, rfl, rfl, .inl ⟨_, rfl, _, _, rfl, rfl, (by show (0 : Int) < _; decide), ?_⟩⟩
        refine ⟨_, rfl, _, _, rfl, rfl, .inr ⟨by decide, by decide⟩, _, rfl, _, _, rfl, rfl, .inl ⟨by decide, by decide⟩, _, _, rfl, rfl, _, _, rfl, rfl, .inl ⟨_, rfl, _, _, rfl, rfl, (by show (0 : Int) < _; decide), ?_⟩⟩
        refine ⟨.ref p, rfl, .inl ⟨rfl, _, hd.sq⟩, _, rfl, .inl ⟨_, rfl, _, _, rfl, rfl, (by show (0 : Int) < _; decide), p, _, _, rfl, rfl, hd, by rw [List.length_map]; exact small' (by omega), ?_⟩⟩
        rw [app_ints]
        refine ⟨.ref p, rfl, .inl ⟨rfl, _, il_upd.sq⟩, _, rfl, _, _, rfl, rfl, ⟨by decide, by decide⟩, .inl ⟨_, rfl, _, _, rfl, rfl, (by show (0 : Int) < _; decide), p, _, _, rfl, rfl, il_upd, by rw [List.length_map, List.length_append]; exact small' (by show _ + 1 < _; omega), ?_⟩⟩
        rw [app_ints]
        exact ⟨same_over (same_over sm hp) hp, _, _, _, _, _, rfl, il_upd, by rw [List.length_append, List.length_append]; show _ + 1 + 1 ≤ _; omega⟩
    · obtain ⟨sm, ds, v2, v3, v4, v5, rfl, hd, hn⟩ := hP
      exact ⟨_, rfl, q H' p ds sm hp hd⟩
def sp_law_at : Sp := fun vs H Q _ => ∃ (a : Addr) (ds : List Int) (k many : Int), vs = [.ref a, .int k, .int many] ∧ IL H a ds ∧ 0 ≤ k ∧ 0 < many ∧ ∀ r, 0 ≤ r → r < many → Q (.int r) H
theorem ok_law_at (T : Txt K mg) : FnOk P w K mg base CX0 1 T.law_at.a T.law_at.fd ["draws", "k", "many"] sp_law_at := by
  refine T.law_at.F.ok sc_law_at (fun vs H Q E h => ?_) (fun cdv A outer s H vs Q E hr h => ?_)
  · obtain ⟨a, ds, k, m, rfl, _⟩ := h
    rfl
  · obtain ⟨a, ds, k, m, rfl, ha, hk, hm, q⟩ := h
    refine ⟨_, (pss_cons (ps_if (pt_cmpR op_lt (pv 1) (pe_callB call_len_seq (by rfl) T.m_len (by decide +kernel) (pa_cons (pv 0) pa_nil)) (nomark _))
        (pss_one (ps_ret (pe_op op_mod (pe_callTy call_int1 (by rfl) T.m_int (by decide +kernel) (pa_cons (pe_ix ix_list (pv 0) (pv 1) (fun _ _ => rfl)) pa_nil)) (pv 2))))
        pss_nil)
      (pss_one (ps_ret pe_int))), ?_⟩
    refine ⟨_, rfl, .ref a, rfl, a, _, rfl, .inl ha.sq, _, _, rfl, rfl, _, rfl, ?_⟩
    rw [List.length_map]
    refine ite2 (fun h => ?_) (fun _ => ?_)
    · have hlt := of_decide_eq_true h
      refine ⟨.ref a, rfl, _, rfl, a, _, _, _, rfl, rfl, ha.sq, at_map' (m := k.toNat) (by omega) (by omega), .inl ⟨_, rfl, _, rfl, _, _, rfl, rfl, hm, ?_⟩⟩
      exact q _ (Int.emod_nonneg _ (by omega)) (Int.emod_lt_of_pos _ hm)
    · exact q 0 (Int.le_refl _) hm
/-! ### texts -/
/-- at most n signs, all of them plain -/
def GS (n : Nat) (s : Str) : Prop := s.length ≤ n ∧ ∀ c ∈ s.cps.toList, c < 200
theorem GS.mono {n m : Nat} {s : Str} (h : GS n s) (l : n ≤ m) : GS m s := ⟨Nat.le_trans h.1 l, h.2⟩
theorem GS.add {n m : Nat} {s t : Str} (a : GS n s) (b : GS m t) : GS (n + m) (s ++ t) := by
  refine ⟨by rw [Str.length_append]; exact Nat.add_le_add a.1 b.1, fun c hc => ?_⟩
  rw [Str.cps_append, Array.toList_append] at hc
  exact (List.mem_append.mp hc).elim (a.2 c) (b.2 c)
theorem GS.one {c : Nat} (h : c < 200) : GS 1 ⟨#[c]⟩ := ⟨Nat.le_refl _, fun x hx => by simp at hx; omega⟩
theorem mem_reps (c : Array Nat) : ∀ (k : Nat) (acc : Array Nat), ∀ x ∈ ((List.replicate k c).foldl (· ++ ·) acc).toList, x ∈ acc.toList ∨ x ∈ c.toList
  | 0, acc, x, h => .inl h
  | k + 1, acc, x, h => by
    rw [List.replicate_succ, List.foldl_cons] at h
    rcases mem_reps c k _ x h with h | h
    · rw [Array.toList_append] at h
      exact List.mem_append.mp h
    · exact .inr h
theorem GS.mul {s : Str} {n : Int} {k : Nat} (h : GS 1 s) (hn : n ≤ (k : Int)) : GS k (Txt.mul s n) := by
  refine ⟨?_, fun c hc => h.2 c ?_⟩
  · have e := len_mul s n
    have h1 : (s.length : Int) ≤ 1 := by have := h.1; omega
    have h0 : (0 : Int) ≤ s.length := by omega
    by_cases hz : n < 0
    · rw [if_pos (decide_eq_true hz), Int.mul_zero] at e; omega
    · rw [if_neg (fun z => hz (of_decide_eq_true z))] at e
      have : (s.length : Int) * n ≤ 1 * n := Int.mul_le_mul_of_nonneg_right h1 (by omega)
      omega
  · unfold Txt.mul at hc
    split at hc
    · simp [Str.empty] at hc
    · split at hc
      · exact hc
      · rcases mem_reps _ _ _ c hc with z | z
        · simp at z
        · exact z
theorem at_ex {α : Type} {xs : List α} {i : Int} (h0 : 0 ≤ i) (h1 : i < xs.length) : ∃ c, atI xs i = some c ∧ c ∈ xs := by
  obtain ⟨n, rfl⟩ : ∃ n : Nat, i = (n : Int) := ⟨i.toNat, by omega⟩
  have h : n < xs.length := by omega
  exact ⟨xs[n], atI_nat (by simp [h]), List.getElem_mem h⟩
theorem sign {z : Str} {n : Nat} (hz : z.cps.toList.length = n) (hg : ∀ c ∈ z.cps.toList, c < 200) {i : Int} (h0 : 0 ≤ i) (h1 : i < n) : ∃ c, atI z.cps.toList i = some c ∧ c < 200 := by
  obtain ⟨c, h, m⟩ := at_ex (xs := z.cps.toList) h0 (by rw [hz]; exact h1)
  exact ⟨c, h, hg c m⟩
theorem let26 {i : Int} (h0 : 0 ≤ i) (h1 : i < 26) : ∃ c, atI ("abcdefghijklmnopqrstuvwxyz" : Str).cps.toList i = some c ∧ c < 200 := sign (n := 26) (by decide +kernel) (by decide +kernel) h0 h1
theorem let12 {i : Int} (h0 : 0 ≤ i) (h1 : i < 12) : ∃ c, atI ("0123456789ab" : Str).cps.toList i = some c ∧ c < 200 := sign (n := 12) (by decide +kernel) (by decide +kernel) h0 h1
theorem let2 {i : Int} (h0 : 0 ≤ i) (h1 : i < 2) : ∃ c, atI ("ab" : Str).cps.toList i = some c ∧ c < 200 := sign (n := 2) (by decide +kernel) (by decide +kernel) h0 h1
theorem gs_int : ∀ m : Fin 201, (toString ((m.val : Nat) : Int) : Str).length ≤ 3 ∧ ∀ c ∈ (toString ((m.val : Nat) : Int) : Str).cps.toList, c < 200 := by decide +kernel
theorem GS.int {m : Nat} (h : m ≤ 200) : GS 3 (toString ((m : Nat) : Int) : Str) := gs_int ⟨m, by omega⟩
theorem p0 {n : Int} (h : 0 < n) (x : Int) : 0 ≤ x % n := Int.emod_nonneg _ (by omega)
def sp_law_name : Sp := fun vs H Q _ => ∃ (a : Addr) (ds : List Int) (k : Int), vs = [.ref a, .int k] ∧ IL H a ds ∧ 0 ≤ k ∧ ∀ s, GS 400 s → Q (.str s) H
theorem ok_law_name (T : Txt K mg) : FnOk P w K mg base CX0 2 T.law_name.a T.law_name.fd ["draws", "k"] sp_law_name := by
  refine T.law_name.F.ok sc_law_name (fun vs H Q E h => ?_) (fun cdv A outer s H vs Q E hr h => ?_)
  · obtain ⟨a, ds, k, rfl, _⟩ := h
    rfl
  · obtain ⟨a, ds, k, rfl, ha, hk, q⟩ := h
    refine ⟨_, (pss_cons (ps_set (i := 2) sc_law_name.nd rfl (.inl rfl) (pe_call (ok_law_at T) (hr.mono (by decide)) (by rfl) T.law_at.g T.law_at.F.kp T.law_at.b .nil pass0 (pa_cons (pv 0) (pa_cons (pv 1) (pa_cons pe_int pa_nil)))))
      (pss_cons (ps_set (i := 3) sc_law_name.nd rfl (.inl rfl) pe_str)
      (pss_cons (ps_set (i := 4) sc_law_name.nd rfl (.inl rfl) (pe_op op_add_str (pe_ix ix_str (pv 3) (pe_op op_mod (pe_callTy call_int1 (by rfl) T.m_int (by decide +kernel) (pa_cons (pv 2) pa_nil)) pe_int) (fun _ _ => rfl)) (pe_op op_mulS (pe_ix ix_str pe_str (pe_op op_mod (pe_callTy call_int1 (by rfl) T.m_int (by decide +kernel) (pa_cons (pe_op op_fdiv (pv 2) pe_int) pa_nil)) pe_int) (fun _ _ => rfl)) (pe_op op_mod (pe_callTy call_int1 (by rfl) T.m_int (by decide +kernel) (pa_cons (pe_op op_fdiv (pv 2) pe_int) pa_nil)) pe_int))))
      (pss_cons (ps_if (pt_cmpR op_eq (pe_op op_mod (pe_callTy call_int1 (by rfl) T.m_int (by decide +kernel) (pa_cons (pe_op op_fdiv (pv 2) pe_int) pa_nil)) pe_int) pe_int (nomark _))
        (pss_one (ps_set (i := 4) sc_law_name.nd rfl (.inl rfl) (pe_op op_add_str (pe_op op_add_str (pv 4) pe_str) (pe_ix ix_str (pv 3) (pe_op op_mod (pe_callTy call_int1 (by rfl) T.m_int (by decide +kernel) (pa_cons (pe_op op_fdiv (pv 2) pe_int) pa_nil)) pe_int) (fun _ _ => rfl)))))
        pss_nil)
      (pss_cons (ps_if (pt_cmpR op_eq (pe_op op_mod (pe_callTy call_int1 (by rfl) T.m_int (by decide +kernel) (pa_cons (pe_op op_fdiv (pv 2) pe_int) pa_nil)) pe_int) pe_int (nomark _))
        (pss_one (ps_set (i := 4) sc_law_name.nd rfl (.inl rfl) (pe_op op_add_str (pv 4) (pe_op op_mulS pe_str (pe_op op_sub pe_int (pe_callB call_len_str (by rfl) T.m_len (by decide +kernel) (pa_cons (pv 4) pa_nil)))))))
        pss_nil)
      (pss_one (ps_ret (pv 4)))))))), ?_⟩
    refine ⟨.ref a, rfl, _, rfl, a, ds, k, 60000, rfl, ha, hk, by decide, fun cell c0 c1 => ?_⟩
    obtain ⟨x1, a1, g1⟩ := let26 (i := cell % 26) (by omega) (by omega)
    obtain ⟨x2, a2, g2⟩ := let12 (i := cell / 26 % 12) (by omega) (by omega)
    obtain ⟨x3, a3, g3⟩ := let26 (i := cell / 3744 % 26) (by omega) (by omega)
    refine ⟨_, rfl, _, rfl, .inl ⟨_, rfl, _, _, rfl, rfl, (by show (0 : Int) < _; decide), _, _, x1, rfl, rfl, (by decide +kernel), a1, ?_⟩⟩
    refine ⟨_, rfl, _, _, rfl, rfl, ⟨by decide, by decide⟩, .inl ⟨_, rfl, _, _, rfl, rfl, (by show (0 : Int) < _; decide), _, _, x2, rfl, rfl, (by decide +kernel), a2, ?_⟩⟩
    have gm : GS 3 (Txt.mul ⟨#[x2]⟩ (cell / 312 % 3)) := (GS.one g2).mul (by omega)
    have g12 := (GS.one g1).add gm
    refine ⟨_, rfl, _, _, rfl, rfl, ⟨by decide, by decide⟩, .inl ⟨_, rfl, _, _, rfl, rfl, (by show (0 : Int) < _; decide), _, _, rfl, rfl, Nat.le_refl _, by omega, by omega, _, _, rfl, rfl, small (by have := (GS.one g1).1; have := gm.1; omega), ?_⟩⟩
    refine ⟨_, rfl, _, _, rfl, rfl, ⟨by decide, by decide⟩, .inl ⟨_, rfl, _, _, rfl, rfl, (by show (0 : Int) < _; decide), rfl, _, rfl, ?_⟩⟩
    generalize (⟨#[x1]⟩ : Str) ++ Txt.mul ⟨#[x2]⟩ (cell / 312 % 3) = wd at g12
    have gd : GS 1 ("." : Str) := ⟨by decide +kernel, by decide +kernel⟩
    have gz : GS 1 ("z" : Str) := ⟨by decide +kernel, by decide +kernel⟩
    refine ite2 (fun _ => ?_) (fun _ => ?_)
    · have g4 := (g12.add gd).add (GS.one g3)
      refine ⟨_, rfl, _, _, rfl, rfl, small (by have := g12.1; have := gd.1; omega), _, rfl, _, rfl, _, _, rfl, rfl, ⟨by decide, by decide⟩, .inl ⟨_, rfl, _, _, rfl, rfl, (by show (0 : Int) < _; decide), _, _, x3, rfl, rfl, (by decide +kernel), a3, _, _, rfl, rfl, small (by have := (g12.add gd).1; have := (GS.one g3).1; omega), ?_⟩⟩
      refine ⟨_, rfl, _, _, rfl, rfl, ⟨by decide, by decide⟩, .inl ⟨_, rfl, _, _, rfl, rfl, (by show (0 : Int) < _; decide), rfl, _, rfl, ?_⟩⟩
      generalize wd ++ ("." : Str) ++ (⟨#[x3]⟩ : Str) = wd at g4
      refine ite2 (fun _ => ?_) (fun _ => ?_)
      · have gm2 : GS 200 (Txt.mul ("z" : Str) (200 - (wd.length : Nat))) := gz.mul (by omega)
        have := g4.1
        refine ⟨_, rfl, _, rfl, _, rfl, small (by omega), _, _, rfl, rfl, _, _, rfl, rfl, gz.1, by omega, by omega, _, _, rfl, rfl, small (by have := gm2.1; omega), _, rfl, q _ ((g4.add gm2).mono (by decide))⟩
      · exact ⟨_, rfl, q _ (g4.mono (by decide))⟩
    · refine ⟨_, rfl, _, _, rfl, rfl, ⟨by decide, by decide⟩, .inl ⟨_, rfl, _, _, rfl, rfl, (by show (0 : Int) < _; decide), rfl, _, rfl, ?_⟩⟩
      refine ite2 (fun _ => ?_) (fun _ => ?_)
      · have gm2 : GS 200 (Txt.mul ("z" : Str) (200 - (wd.length : Nat))) := gz.mul (by omega)
        have := g12.1
        refine ⟨_, rfl, _, rfl, _, rfl, small (by omega), _, _, rfl, rfl, _, _, rfl, rfl, gz.1, by omega, by omega, _, _, rfl, rfl, small (by have := gm2.1; omega), _, rfl, q _ ((g12.add gm2).mono (by decide))⟩
      · exact ⟨_, rfl, q _ (g12.mono (by decide))⟩
end
-- P8
section
variable {P : Program} {w : World} {K : PySem.W.Frag} {mg : Str → Option Value} {base : Heap}
theorem flat_strs : ∀ qs : List Str, (qs.map V.str).all flatV = true
  | [] => rfl
  | q :: r => by rw [List.map_cons, List.all_cons, flat_strs r]; rfl
def sp_law_quantities : Sp := fun vs H Q _ => ∃ (a : Addr) (ds : List Int) (k : Int) (many : Nat), vs = [.ref a, .int k, .int (many : Nat)] ∧ IL H a ds ∧ 0 ≤ k ∧ many ≤ 30 ∧
  ∀ (H' : Hp) (p : Addr) (qs : List Str), Same H H' → H p = none → H' p = some (.lst (qs.map V.str)) → qs.length = many → (∀ q ∈ qs, GS 400 q) → Q (.ref p) H'
theorem ok_law_quantities (T : Txt K mg) : FnOk P w K mg base CX0 3 T.law_quantities.a T.law_quantities.fd ["draws", "k", "many"] sp_law_quantities := by
  refine T.law_quantities.F.ok sc_law_quantities (fun vs H Q E h => ?_) (fun cdv A outer s H vs Q E hr h => ?_)
  · obtain ⟨a, ds, k, m, rfl, _⟩ := h
    rfl
  · obtain ⟨a, ds, k, many, rfl, ha, hk, hm, q⟩ := h
    refine ⟨_, (pss_cons (ps_set (i := 3) sc_law_quantities.nd rfl (.inl rfl) (pe_lst pa_nil))
      (pss_cons (ps_for PassesOwn.never rfl (pi_range1 (by rfl) T.m_range (pa_cons (pv 2) pa_nil)) (pg_name (i := 4) sc_law_quantities.nd rfl (.inl rfl))
        (pss_cons (ps_set (i := 5) sc_law_quantities.nd rfl (.inl rfl) (pe_call (ok_law_name T) (hr.mono (by decide)) (by rfl) T.law_name.g T.law_name.F.kp T.law_name.b .nil pass0 (pa_cons (pv 0) (pa_cons (pe_op op_add (pv 1) (pv 4)) pa_nil))))
        (pss_cons (ps_if (PW.pt (pw_or (pt_cmpR op_in_seq (pv 5) (pv 3) rfl) (pw_or1 (PW.pt (pw_and (pt_cmpR op_gt (pe_callB call_len_str (by rfl) T.m_len (by decide +kernel) (pa_cons (pv 5) pa_nil)) pe_int (nomark _)) (pw_and1 (pt_cmpR op_gt (pv 4) pe_int (nomark _))))))))
          (pss_one (ps_set (i := 5) sc_law_quantities.nd rfl (.inl rfl) (pe_op op_add_str pe_str (pe_callTy call_str_int (by rfl) T.m_str (by decide +kernel) (pa_cons (pv 4) pa_nil)))))
          pss_nil)
        (pss_one (ps_expr (pe_bm PySem.F.plainAttrs_list PySem.F.slot_list_append PySem.F.type_list_append mt_append (pv 3) (pa_cons (pv 5) pa_nil)))))))
      (pss_one (ps_ret (pv 3))))), ?_⟩
    refine ⟨by show 0 ≤ sizeLine; decide, fun p np => ⟨_, rfl, (many : Nat), rfl, by omega, by omega, ?_⟩⟩
    rw [Int.toNat_natCast]
    refine for_it (walk_range (lo := 0) (n := many)) (fun i σ G => Same H G ∧ ∃ (v4 v5 : Option V) (qs : List Str), σ = [some (.ref a), some (.int k), some (.int (many : Nat)), some (.ref p), v4, v5] ∧ G p = some (.lst (qs.map V.str)) ∧ qs.length = i ∧ ∀ q ∈ qs, GS 400 q) ⟨same_upd np, none, none, [], rfl, upd_same, rfl, fun _ h => by cases h⟩ (fun _ _ _ _ _ => trivial) (fun i x σ G G' hi pv y => ?_) (fun σ G pv => ?_)
    · obtain ⟨sm, v4, v5, qs, rfl, hp, hn, hg⟩ := pv
      obtain ⟨rfl, rfl⟩ := y
      refine ⟨.ref a, rfl, _, rfl, _, rfl, _, _, rfl, rfl, a, ds, _, rfl, ha.same sm, by omega, fun nm gn => ?_⟩
      have fin : ∀ (nm : Str) (v5 : Option V), GS 400 nm → Same H (upd G' p (.lst (qs.map V.str ++ [V.str nm]))) ∧ ∃ (v4' v5' : Option V) (qs' : List Str), [some (V.ref a), some (V.int k), some (V.int (many : Nat)), some (V.ref p), some (V.int (0 + (i : Int))), v5] = [some (V.ref a), some (V.int k), some (V.int (many : Nat)), some (V.ref p), v4', v5'] ∧
          upd G' p (.lst (qs.map V.str ++ [V.str nm])) p = some (.lst (qs'.map V.str)) ∧ qs'.length = i + 1 ∧ ∀ q ∈ qs', GS 400 q := fun nm v5 gn => by
        refine ⟨same_over sm np, _, _, qs ++ [nm], rfl, by rw [upd_same, List.map_append]; rfl, by simp [hn], fun q hq => ?_⟩
        rcases List.mem_append.mp hq with hq | hq
        · exact hg q hq
        · simp at hq; subst hq; exact gn
      have lt : (qs.map V.str).length < sizeLine := small' (by rw [List.length_map]; omega)
      have gq : GS 400 (("zq" : Str) ++ (toString (0 + (i : Int)) : Str)) := by
        rw [Int.zero_add]
        exact (GS.add (n := 2) (m := 3) ⟨by decide +kernel, by decide +kernel⟩ (GS.int (by omega))).mono (by decide)
      have lg : (0 + (i : Int)).natAbs.log2 < 1920 := by
        have : (0 + (i : Int)).natAbs < 2 ^ 30 := by omega
        exact log_small this
      have lz : ("zq" : Str).length + (toString (0 + (i : Int)) : Str).length ≤ sizeLine := small (by have := gq.1; rw [Str.length_append] at this; omega)
      refine ⟨_, rfl, .ref p, rfl, p, _, rfl, .inl (.of hp), rfl, flat_strs qs, _, rfl, ?_⟩
      refine ite2 (fun _ => ?_) (fun _ => ?_)
      · refine ⟨_, rfl, _, rfl, lg, _, _, rfl, rfl, lz, .ref p, rfl, .inl ⟨rfl, _, .of hp⟩, _, rfl, p, _, _, rfl, rfl, hp, lt, ?_⟩
        exact fin _ _ gq
      · refine ⟨_, rfl, _, rfl, small (by have := gn.1; omega), _, _, rfl, rfl, _, rfl, ?_⟩
        refine ite2 (fun _ => ?_) (fun _ => ?_)
        · refine ⟨_, rfl, _, _, rfl, rfl, _, rfl, ite2 (fun _ => ?_) (fun _ => ?_)⟩
          · refine ⟨_, rfl, _, rfl, lg, _, _, rfl, rfl, lz, .ref p, rfl, .inl ⟨rfl, _, .of hp⟩, _, rfl, p, _, _, rfl, rfl, hp, lt, ?_⟩
            exact fin _ _ gq
          · refine ⟨.ref p, rfl, .inl ⟨rfl, _, .of hp⟩, _, rfl, p, _, _, rfl, rfl, hp, lt, ?_⟩
            exact fin _ _ gn
        · refine iteF ⟨.ref p, rfl, .inl ⟨rfl, _, .of hp⟩, _, rfl, p, _, _, rfl, rfl, hp, lt, ?_⟩
          exact fin _ _ gn
    · obtain ⟨sm, v4, v5, qs, rfl, hp, hn, hg⟩ := pv
      exact ⟨_, rfl, q G p qs sm np hp hn hg⟩
/-! ### places -/
theorem shaped_of {d : PyData} (h1 : d.canLay0 = true) (h2 : d.depth ≤ 64) : SeqAt.shaped d = true := by
  unfold SeqAt.shaped
  rw [h1, decide_eq_true h2]; rfl
def dP (p : Nat × Nat) : PyData := .tuple [.int (p.1 : Nat), .int (p.2 : Nat)]
theorem dp_all {H : Hp} {R : V → Nat × Nat → Prop} (h : ∀ v p, R v p → PT2 K H v p) : ∀ {xs : List V} {ps : List (Nat × Nat)}, A2 R xs ps → DpAll K H xs (ps.map dP)
  | _, _, .nil => .nil
  | _, _, .cons a t => by
    obtain ⟨b, rfl, q⟩ := h _ _ a
    exact .cons (.tup q (.cons (.int _) (.cons (.int _) .nil))) (dp_all h t)
theorem lay_all {f : Nat × Nat → PyData} (h : ∀ p, (f p).canLay0 = true) : ∀ ps : List (Nat × Nat), PyData.canLayAll0 (ps.map f) = true
  | [] => rfl
  | p :: r => by
    show ((f p).canLay0 && PyData.canLayAll0 (r.map f)) = true
    rw [h p, lay_all h r]; rfl
theorem depth_all {f : Nat × Nat → PyData} {n : Nat} (h : ∀ p, (f p).depth ≤ n) : ∀ ps : List (Nat × Nat), PyData.depthAll (ps.map f) ≤ n
  | [] => Nat.zero_le _
  | p :: r => by
    show max (f p).depth (PyData.depthAll (r.map f)) ≤ n
    exact Nat.max_le.mpr ⟨h p, depth_all h r⟩
theorem shaped_dP (p : Nat × Nat) : SeqAt.shaped (dP p) = true := shaped_of (by simp [dP, PyData.canLay0, PyData.canLayAll0]) (by simp [dP, PyData.depth, PyData.depthAll])
theorem shaped_dPs (ps : List (Nat × Nat)) : SeqAt.shaped (.list (ps.map dP)) = true := shaped_of (lay_all (fun p => SeqAt.canLay_of_shaped (shaped_dP p)) ps)
  (Nat.le_trans (Nat.succ_le_succ (depth_all (n := 1) (fun p => by simp [dP, PyData.depth, PyData.depthAll]) ps)) (by decide))
def sp_law_places (K : PySem.W.Frag) : Sp := fun vs H Q _ => ∃ (a : Addr) (ds : List Int) (k : Int) (many size : Nat), vs = [.ref a, .int k, .int (many : Nat), .int (size : Nat)] ∧ IL H a ds ∧ 0 ≤ k ∧ 0 < many ∧ size ≤ 100 ∧
  ∀ H' p ps, Same H H' → H p = none → PL K H' p ps → (∀ x ∈ ps, x.1 < 4 ∧ x.2 < many) → ps.length ≤ size → (0 < size → ps ≠ []) → Q (.ref p) H'
theorem ok_law_places (T : Txt K mg) : FnOk P w K mg base CX0 2 T.law_places.a T.law_places.fd ["draws", "k", "many", "size"] (sp_law_places K) := by
  refine T.law_places.F.ok sc_law_places (fun vs H Q E h => ?_) (fun cdv A outer s H vs Q E hr h => ?_)
  · obtain ⟨a, ds, k, m, z, rfl, _⟩ := h
    rfl
  · obtain ⟨a, ds, k, many, size, rfl, ha, hk, hm, hz, q⟩ := h
    refine ⟨_, (pss_cons (ps_set (i := 4) sc_law_places.nd rfl (.inl rfl) (pe_lst pa_nil))
      (pss_cons (ps_for PassesOwn.never rfl (pi_range1 (by rfl) T.m_range (pa_cons (pv 3) pa_nil)) (pg_name (i := 5) sc_law_places.nd rfl (.inl rfl))
        (pss_cons (ps_set (i := 6) sc_law_places.nd rfl (.inl rfl) (pe_call (ok_law_at T) (hr.mono (by decide)) (by rfl) T.law_at.g T.law_at.F.kp T.law_at.b .nil pass0 (pa_cons (pv 0) (pa_cons (pe_op op_add (pv 1) (pv 5)) (pa_cons pe_int pa_nil)))))
        (pss_cons (ps_set (i := 7) sc_law_places.nd rfl (.inl rfl) (pe_tup (pa_cons (pe_op op_mod (pe_callTy call_int1 (by rfl) T.m_int (by decide +kernel) (pa_cons (pv 6) pa_nil)) pe_int) (pa_cons (pe_op op_mod (pe_callTy call_int1 (by rfl) T.m_int (by decide +kernel) (pa_cons (pe_op op_fdiv (pv 6) pe_int) pa_nil)) (pv 2)) pa_nil))))
        (pss_one (ps_if (pt_cmpR (op_notInD (r65 hr)) (pv 7) (pv 4) rfl)
          (pss_one (ps_expr (pe_bm PySem.F.plainAttrs_list PySem.F.slot_list_append PySem.F.type_list_append mt_append (pv 4) (pa_cons (pv 7) pa_nil))))
          pss_nil)))))
      (pss_one (ps_ret (pv 4))))), ?_⟩
    refine ⟨by show 0 ≤ sizeLine; decide, fun p np => ⟨_, rfl, (size : Nat), rfl, by omega, by omega, ?_⟩⟩
    rw [Int.toNat_natCast]
    refine for_it (walk_range (lo := 0) (n := size)) (fun i σ G => Same H G ∧ ∃ v5 v6 v7 xs ps, σ = [some (.ref a), some (.int k), some (.int (many : Nat)), some (.int (size : Nat)), some (.ref p), v5, v6, v7] ∧ G p = some (.lst xs) ∧ A2 (PTX K p G) xs ps ∧ (∀ x ∈ ps, x.1 < 4 ∧ x.2 < many) ∧ ps.length ≤ i ∧ (0 < i → ps ≠ []))
      ⟨same_upd np, none, none, none, [], [], rfl, upd_same, .nil, (fun _ h => by cases h), Nat.le_refl _, fun h => absurd h (by decide)⟩ (fun _ _ _ _ _ => trivial) (fun i x σ G G' hi pv y => ?_) (fun σ G pv => ?_)
    · obtain ⟨sm, v5, v6, v7, xs, ps, rfl, hp, hA, hb, hn, h0⟩ := pv
      obtain ⟨rfl, rfl⟩ := y
      refine ⟨.ref a, rfl, _, rfl, _, rfl, _, _, rfl, rfl, a, ds, _, 60000, rfl, ha.same sm, by omega, by decide, fun cell c0 c1 => ?_⟩
      refine ⟨_, rfl, .inl ⟨_, rfl, _, _, rfl, rfl, (by show (0 : Int) < _; decide), _, rfl, _, _, rfl, rfl, ⟨by decide, by decide⟩, .inl ⟨_, rfl, _, rfl, _, _, rfl, rfl, by omega, by show 2 ≤ sizeLine; decide, fun t nt => ?_⟩⟩⟩
      have e1 : cell % 4 = (((cell % 4).toNat : Nat) : Int) := by omega
      have b2 : 0 ≤ cell / 4 % (many : Int) := Int.emod_nonneg _ (by omega)
      have b3 : cell / 4 % (many : Int) < many := Int.emod_lt_of_pos _ (by omega)
      obtain ⟨j, ej⟩ : ∃ j : Nat, cell / 4 % (many : Int) = (j : Int) := ⟨_, (Int.toNat_of_nonneg b2).symm⟩
      have lj : j < many := by omega
      dsimp only
      rw [ej]
      rw [e1]
      have lk : (cell % 4).toNat < 4 := by omega
      generalize (cell % 4).toNat = kk at lk ⊢
      have tp : t ≠ p := fun z => by rw [z, hp] at nt; cases nt
      have hp2 := same_upd nt (o := .tup [.int (kk : Nat), .int (j : Nat)]) _ _ hp
      have hA2 : A2 (PTX K p (upd G' t (.tup [.int (kk : Nat), .int (j : Nat)]))) xs ps := hA.mono fun v b z => PTX.mono _ _ v b (sx (same_upd nt)) z
      refine ⟨_, rfl, .ref p, rfl, dP (kk, j), ps.map dP, .tup (.of upd_same) (.cons (.int _) (.cons (.int _) .nil)), .lst (.of hp2) (dp_all (fun _ _ => PTX.pt) hA2), shaped_dP _, shaped_dPs ps, _, rfl, ?_⟩
      refine ite2 (fun hin => ?_) (fun hin => ?_)
      · refine ⟨.ref p, rfl, .inl ⟨rfl, _, .of hp2⟩, _, rfl, p, _, _, rfl, rfl, hp2, small' (by have := hA.len; omega), ?_⟩
        refine ⟨same_over (sm.trans (same_upd nt)) np, _, _, _, xs ++ [.ref t], ps ++ [(kk, j)], rfl, upd_same, A2.snoc ⟨t, rfl, tp, .of (by rw [upd_ne tp]; exact upd_same)⟩ (hA2.mono fun v b z => PTX.mono _ _ v b SameX.put z), fun x hx => ?_, by rw [List.length_append]; exact Nat.succ_le_succ hn, fun _ => by simp⟩
        rcases List.mem_append.mp hx with hx | hx
        · exact hb x hx
        · simp at hx; subst hx; exact ⟨lk, lj⟩
      · refine ⟨sm.trans (same_upd nt), _, _, _, xs, ps, rfl, hp2, hA2, hb, by omega, fun _ z => ?_⟩
        subst z
        exact hin rfl
    · obtain ⟨sm, v5, v6, v7, xs, ps, rfl, hp, hA, hb, hn, h0⟩ := pv
      exact ⟨_, rfl, q G p ps sm np ⟨xs, hp, hA.mono fun _ _ => PTX.pt⟩ hb hn h0⟩
end
-- P9
section
variable {P : Program} {w : World} {K : PySem.W.Frag} {mg : Str → Option Value} {base : Heap}
/-- a law is handed back, its list of terms is new -/
def OutLaw (K : PySem.W.Frag) (many : Nat) (H : Hp) (Q : VK) : Prop := ∀ H' v l p, Same H H' → H p = none → LWp K H' v l p → TsL K H' p l.ts → VL many l → Q v H'
/-- a term, not the list D itself -/
def TmX (K : PySem.W.Frag) (D : Addr) (H : Hp) (v : V) (t : Trm) : Prop := ∃ a, v = .ref a ∧ a ≠ D ∧ SqT K H a [vH t.h, .int (t.k : Nat), .int (t.j : Nat)]
theorem TmX.mono {D : Addr} (H H' : Hp) (v : V) (b : Trm) (s : SameX D H H') (h : TmX K D H v b) : TmX K D H' v b := let ⟨a, e, n, q⟩ := h; ⟨a, e, n, s.seqT n q⟩
theorem TmX.tm {D : Addr} {H : Hp} {v : V} {b : Trm} (h : TmX K D H v b) : TmV K H v b := let ⟨a, e, _, q⟩ := h; ⟨a, e, q⟩
/-- the i-th place is read -/
theorem pl_at {H : Hp} {xs : List V} {ps : List (Nat × Nat)} (h : A2 (PT2 K H) xs ps) {i : Nat} (hi : i < ps.length) : ∃ b, atI xs ((i : Nat) : Int) = some (.ref b) ∧ SqT K H b [.int ((ps[i]'hi).1 : Nat), .int ((ps[i]'hi).2 : Nat)] := by
  obtain ⟨v, hv, b, rfl, q⟩ := h.get' (i := i) (b := ps[i]) (by simp [hi])
  exact ⟨b, atI_nat hv, q⟩
/-- a term of an exact law, of a sized one -/
def ExT (many : Nat) (t : Trm) : Prop := t.k < 4 ∧ t.j < many ∧ ∃ n : Int, t.h = .inl n ∧ n ≠ 0 ∧ n.natAbs < 10 ^ 8
def SzT (many : Nat) (t : Trm) : Prop := t.k < 4 ∧ t.j < many ∧ ∃ s : Str, t.h = .inr s ∧ GS 200 s
theorem vl_ex {many : Nat} {ts : List Trm} {s : Str} (h : ∀ t ∈ ts, ExT many t) (gs : GS 600 s) (hl : ts.length ≤ 130) : VL many ⟨true, 0, 0, ts, s⟩ :=
  ⟨fun t ht => ⟨(h t ht).1, (h t ht).2.1⟩, (fun z => by cases z), fun _ t ht => (h t ht).2.2, (fun z => by cases z), gs, hl⟩
theorem vl_sz {many k j : Nat} {ts : List Trm} {s : Str} (hk : k < 4) (hj : j < many) (h : ∀ t ∈ ts, SzT many t) (gs : GS 600 s) (hl : ts.length ≤ 130) : VL many ⟨false, k, j, ts, s⟩ :=
  ⟨fun t ht => ⟨(h t ht).1, (h t ht).2.1⟩, fun _ => ⟨hk, hj⟩, (fun z => by cases z), fun _ t ht => (h t ht).2.2, gs, hl⟩
def sp_law_one (K : PySem.W.Frag) : Sp := fun vs H Q _ => ∃ (a : Addr) (ds : List Int) (k : Int) (many number : Nat), vs = [.ref a, .int k, .int (many : Nat), .int (number : Nat)] ∧ IL H a ds ∧ 0 ≤ k ∧ many ≤ 30 ∧ number ≤ 100 ∧ OutLaw K many H Q
theorem ok_law_one (T : Txt K mg) : FnOk P w K mg base CX0 3 T.law_one.a T.law_one.fd ["draws", "k", "many", "number"] (sp_law_one K) := by
  refine T.law_one.F.ok sc_law_one (fun vs H Q E h => ?_) (fun cdv A outer s H vs Q E hr h => ?_)
  · obtain ⟨a, ds, k, m, z, rfl, _⟩ := h
    rfl
  · obtain ⟨a, ds, k, many, number, rfl, ha, hk, hm, hn, q⟩ := h
    refine ⟨_, (pss_cons (ps_set (i := 4) sc_law_one.nd rfl (.inl rfl) (pe_ix ix_list (pe_lst (pa_cons pe_str (pa_cons pe_str (pa_cons (pe_op op_add_str pe_str (pe_callTy call_str_int (by rfl) T.m_str (by decide +kernel) (pa_cons (pv 3) pa_nil))) (pa_cons pe_str pa_nil))))) (pe_call (ok_law_at T) (hr.mono (by decide)) (by rfl) T.law_at.g T.law_at.F.kp T.law_at.b .nil pass0 (pa_cons (pv 0) (pa_cons (pv 1) (pa_cons pe_int pa_nil)))) (fun _ _ => rfl)))
      (pss_cons (ps_set (i := 5) sc_law_one.nd rfl (.inl rfl) (pe_call (ok_law_at T) (hr.mono (by decide)) (by rfl) T.law_at.g T.law_at.F.kp T.law_at.b .nil pass0 (pa_cons (pv 0) (pa_cons (pe_op op_add (pv 1) pe_int) (pa_cons pe_int pa_nil)))))
      (pss_cons (ps_if (pt_cmpR op_eq (pv 2) pe_int (nomark _))
        (pss_one (ps_ret (pe_tup (pa_cons pe_str (pa_cons (pe_lst pa_nil) (pa_cons (pv 4) pa_nil))))))
        pss_nil)
      (pss_cons (ps_if (pt_cmpR op_eq (pe_call (ok_law_at T) (hr.mono (by decide)) (by rfl) T.law_at.g T.law_at.F.kp T.law_at.b .nil pass0 (pa_cons (pv 0) (pa_cons (pe_op op_add (pv 1) pe_int) (pa_cons pe_int pa_nil)))) pe_int (nomark _))
        (pss_cons (ps_set (i := 6) sc_law_one.nd rfl (.inr rfl) (pe_call (ok_law_places T) (hr.mono (by decide)) (by rfl) T.law_places.g T.law_places.F.kp T.law_places.b .nil pass0 (pa_cons (pv 0) (pa_cons (pe_op op_add (pv 1) pe_int) (pa_cons (pv 2) (pa_cons (pv 5) pa_nil))))))
        (pss_cons (ps_set (i := 7) sc_law_one.nd rfl (.inl rfl) (pe_lst pa_nil))
        (pss_cons (ps_for PassesOwn.never rfl (pi_range1 (by rfl) T.m_range (pa_cons (pe_callB call_len_seq (by rfl) T.m_len (by decide +kernel) (pa_cons (pv 6) pa_nil)) pa_nil)) (pg_name (i := 8) sc_law_one.nd rfl (.inl rfl))
          (pss_cons (ps_set (i := 9) sc_law_one.nd rfl (.inl rfl) (pe_call (ok_law_at T) (hr.mono (by decide)) (by rfl) T.law_at.g T.law_at.F.kp T.law_at.b .nil pass0 (pa_cons (pv 0) (pa_cons (pe_op op_add (pe_op op_add (pv 1) pe_int) (pv 8)) (pa_cons pe_int pa_nil)))))
          (pss_cons (ps_set (i := 10) sc_law_one.nd rfl (.inl rfl) (pe_ix ix_list (pe_lst (pa_cons pe_int (pa_cons (pe_un un_neg pe_int) (pa_cons pe_int (pa_cons (pe_un un_neg pe_int) (pa_cons (pe_op op_add pe_int (pe_callTy call_int1 (by rfl) T.m_int (by decide +kernel) (pa_cons (pe_op op_fdiv (pv 9) pe_int) pa_nil))) (pa_cons (pe_op op_sub (pe_un un_neg pe_int) (pe_callTy call_int1 (by rfl) T.m_int (by decide +kernel) (pa_cons (pe_op op_fdiv (pv 9) pe_int) pa_nil))) pa_nil))))))) (pe_op op_mod (pe_callTy call_int1 (by rfl) T.m_int (by decide +kernel) (pa_cons (pv 9) pa_nil)) pe_int) (fun _ _ => rfl)))
          (pss_one (ps_expr (pe_bm PySem.F.plainAttrs_list PySem.F.slot_list_append PySem.F.type_list_append mt_append (pv 7) (pa_cons (pe_tup (pa_cons (pv 10) (pa_cons (pe_ix ix_tup (pe_ix ix_list (pv 6) (pv 8) (fun _ _ => rfl)) pe_int (fun _ _ => rfl)) (pa_cons (pe_ix ix_tup (pe_ix ix_list (pv 6) (pv 8) (fun _ _ => rfl)) pe_int (fun _ _ => rfl)) pa_nil)))) pa_nil)))))))
        (pss_one (ps_ret (pe_tup (pa_cons pe_str (pa_cons (pv 7) (pa_cons (pv 4) pa_nil)))))))))
        pss_nil)
      (pss_cons (ps_set (i := 6) sc_law_one.nd rfl (.inr rfl) (pe_call (ok_law_places T) (hr.mono (by decide)) (by rfl) T.law_places.g T.law_places.F.kp T.law_places.b .nil pass0 (pa_cons (pv 0) (pa_cons (pe_op op_add (pv 1) pe_int) (pa_cons (pv 2) (pa_cons (pe_op op_add (pv 5) pe_int) pa_nil))))))
      (pss_cons (ps_setLc (i := 7) (own := [("turn", 8)]) rfl sc_law_one.nd rfl rfl (sw_true rfl rfl rfl (by decide +kernel)) (pi_range2 (by rfl) T.m_range (pa_cons pe_int (pa_cons (pe_callB call_len_seq (by rfl) T.m_len (by decide +kernel) (pa_cons (pv 6) pa_nil)) pa_nil))) (blkOk_by (N := ["draws", "k", "many", "number", "source", "size", "places", "terms", "turn", "cell", "value"]) (sc := defScope s_law_one) (by decide +kernel)) (fun _ _ _ _ _ => (pg_name (i := 8) sc_law_one.nd rfl (.inl rfl))) (fun _ _ _ _ _ => pts_nil) (fun _ _ _ _ _ => (pe_tup (pa_cons (pe_op op_add_str (pe_op op_add_str (pe_op op_add_str (pe_op op_add_str pe_str (pe_callTy call_str_int (by rfl) T.m_str (by decide +kernel) (pa_cons (pv 3) pa_nil))) pe_str) (pe_ix ix_str pe_str (pe_op op_fdiv (pv 8) pe_int) (fun _ _ => rfl))) (pe_callTy call_str_int (by rfl) T.m_str (by decide +kernel) (pa_cons (pv 8) pa_nil))) (pa_cons (pe_ix (r := rIxT K) ix_tup (pe_ix (r := rIxL K) ix_list (pv 6) (pv 8) (fun _ _ => rfl)) pe_int (fun _ _ => rfl)) (pa_cons (pe_ix (r := rIxT K) ix_tup (pe_ix (r := rIxL K) ix_list (pv 6) (pv 8) (fun _ _ => rfl)) pe_int (fun _ _ => rfl)) pa_nil))))))
      (pss_cons (ps_if (pt_cmpR op_eq (pe_callB call_len_seq (by rfl) T.m_len (by decide +kernel) (pa_cons (pv 7) pa_nil)) pe_int (nomark _))
        (pss_one (ps_ret (pe_tup (pa_cons pe_str (pa_cons (pe_lst (pa_cons (pe_tup (pa_cons pe_int (pa_cons (pe_ix ix_tup (pe_ix ix_list (pv 6) pe_int (fun _ _ => rfl)) pe_int (fun _ _ => rfl)) (pa_cons (pe_ix ix_tup (pe_ix ix_list (pv 6) pe_int (fun _ _ => rfl)) pe_int (fun _ _ => rfl)) pa_nil)))) pa_nil)) (pa_cons (pv 4) pa_nil))))))
        pss_nil)
      (pss_one (ps_ret (pe_tup (pa_cons pe_str (pa_cons (pe_ix ix_tup (pe_ix ix_list (pv 6) pe_int (fun _ _ => rfl)) pe_int (fun _ _ => rfl)) (pa_cons (pe_ix ix_tup (pe_ix ix_list (pv 6) pe_int (fun _ _ => rfl)) pe_int (fun _ _ => rfl)) (pa_cons (pv 7) (pa_cons (pv 4) pa_nil))))))))))))))), ?_⟩
    have lgn : ((number : Nat) : Int).natAbs.log2 < 1920 := log_small (by omega)
    have gn : GS 3 (toString ((number : Nat) : Int) : Str) := GS.int (by omega)
    have g1 : GS 4 (("g" : Str) ++ (toString ((number : Nat) : Int) : Str)) := GS.add (n := 1) ⟨by decide +kernel, by decide +kernel⟩ gn
    refine ⟨_, rfl, _, rfl, lgn, _, _, rfl, rfl, small (by have := g1.1; rw [Str.length_append] at this; omega), by show 4 ≤ sizeLine; decide, fun l0 n0 => ?_⟩
    have s1 := same_upd n0 (o := .lst [V.str "", V.str "f", V.str (("g" : Str) ++ (toString ((number : Nat) : Int) : Str)), V.str "load.f"])
    refine ⟨.ref a, rfl, _, rfl, a, ds, k, 4, rfl, ha.same s1, hk, by decide, fun r0 r1 r2 => ?_⟩
    obtain ⟨sv, hs, ms⟩ := at_ex (xs := [V.str "", V.str "f", V.str (("g" : Str) ++ (toString ((number : Nat) : Int) : Str)), V.str "load.f"]) (i := r0) r1 r2
    obtain ⟨src, rfl, gs⟩ : ∃ src : Str, sv = .str src ∧ GS 600 src := by
      rcases List.mem_cons.mp ms with rfl | ms
      · exact ⟨_, rfl, by decide +kernel, by decide +kernel⟩
      rcases List.mem_cons.mp ms with rfl | ms
      · exact ⟨_, rfl, by decide +kernel, by decide +kernel⟩
      rcases List.mem_cons.mp ms with rfl | ms
      · exact ⟨_, rfl, g1.mono (by decide)⟩
      rcases List.mem_cons.mp ms with rfl | ms
      · exact ⟨_, rfl, by decide +kernel, by decide +kernel⟩
      · cases ms
    refine ⟨l0, _, r0, _, rfl, rfl, .of upd_same, hs, ?_⟩
    refine ⟨.ref a, rfl, _, rfl, _, _, rfl, rfl, a, ds, _, 4, rfl, ha.same s1, by omega, by decide, fun sz z1 z2 => ?_⟩
    obtain ⟨size, rfl⟩ : ∃ n : Nat, sz = (n : Int) := ⟨sz.toNat, by omega⟩
    generalize upd H l0 _ = Ha at s1
    refine ⟨_, rfl, rfl, _, rfl, ?_⟩
    refine ite2 (fun h => ?_) (fun h => ?_)
    · refine ⟨by show 0 ≤ sizeLine; decide, fun p np => ⟨_, rfl, by show 3 ≤ sizeLine; decide, fun t nt => ?_⟩⟩
      have s2 : Same Ha (upd (upd Ha p (.lst [])) t (.tup [.str "exact", .ref p, .str src])) := (same_upd np).trans (same_upd nt)
      exact q _ (.ref t) ⟨true, 0, 0, [], src⟩ p (s1.trans s2) (s1.free np) ⟨t, rfl, .inl ⟨rfl, .of upd_same⟩⟩ ⟨[], .of (same_upd nt _ _ upd_same), .nil⟩ (vl_ex (fun _ z => by cases z) gs (by decide))
    have hm0 : 0 < many := by
      rcases Nat.eq_zero_or_pos many with rfl | z
      · exact absurd (decide_eq_true rfl) h
      · exact z
    refine ⟨.ref a, rfl, _, rfl, _, _, rfl, rfl, a, ds, _, 2, rfl, ha.same s1, by omega, by decide, fun b0 b1 b2 => ?_⟩
    refine ⟨rfl, _, rfl, ite2 (fun _ => ?_) (fun _ => ?_)⟩
    · -- an exact law
      refine ⟨.ref a, rfl, _, rfl, _, _, rfl, rfl, _, rfl, _, rfl, a, ds, _, many, size, rfl, ha.same s1, by omega, hm0, by omega, fun Hb p ps sb np ⟨xs, hp, hA⟩ hb hl _ => ?_⟩
      have s2 := s1.trans sb
      refine ⟨by show 0 ≤ sizeLine; decide, fun tl nt => ?_⟩
      have hp2 := same_upd nt (o := .lst []) _ _ hp
      have hA2 := hA.mono fun v b z => PT2.same (same_upd nt (o := .lst [])) z
      refine ⟨.ref p, rfl, p, _, rfl, .inl (.of hp2), (xs.length : Nat), rfl, by have := hA.len; omega, by have := hA.len; omega, ?_⟩
      rw [Int.toNat_natCast]
      refine for_it (walk_range (lo := 0) (n := xs.length)) (fun i σ G => Same Hb G ∧ ∃ (v8 v9 v10 : Option V) (zs : List V) (ts : List Trm), σ = [some (.ref a), some (.int k), some (.int (many : Nat)), some (.int (number : Nat)), some (.str src), some (.int (size : Nat)), some (.ref p), some (.ref tl), v8, v9, v10] ∧
          G tl = some (.lst zs) ∧ A2 (TmX K tl G) zs ts ∧ (∀ t ∈ ts, ExT many t) ∧ ts.length = i) ⟨same_upd nt, none, none, none, [], [], rfl, upd_same, .nil, (fun _ z => by cases z), rfl⟩ (fun _ _ _ _ _ => trivial) (fun i x σ G G' hi pv y => ?_) (fun σ G pv => ?_)
      · obtain ⟨sm, v8, v9, v10, zs, ts, rfl, ht, hT, he, hn2⟩ := pv
        obtain ⟨rfl, rfl⟩ := y
        have hi' : i < ps.length := by rw [← hA.len]; exact hi
        obtain ⟨b, ab, qb⟩ := pl_at hA hi'
        obtain ⟨pk, pj⟩ := hb _ (List.getElem_mem hi')
        rw [← Int.zero_add ((i : Nat) : Int)] at ab
        refine ⟨.ref a, rfl, _, rfl, _, _, rfl, rfl, _, rfl, _, _, rfl, rfl, a, ds, _, 60000, rfl, ha.same (s2.trans sm), by omega, by decide, fun cell c0 c1 => ?_⟩
        refine ⟨_, rfl, _, rfl, _, rfl, _, _, rfl, rfl, ⟨by decide, by decide⟩, .inl ⟨_, rfl, _, _, rfl, rfl, _, rfl, _, rfl, _, _, rfl, rfl, ⟨by decide, by decide⟩, .inl ⟨_, rfl, _, _, rfl, rfl, by show 6 ≤ sizeLine; decide, fun l1 n1 => ?_⟩⟩⟩
        refine ⟨_, rfl, .inl ⟨_, rfl, _, _, rfl, rfl, (by show (0 : Int) < _; decide), ?_⟩⟩
        dsimp only
        obtain ⟨nv, hnv, mnv⟩ := at_ex (xs := [V.int 1, V.int (-1), V.int 1000000, V.int (-1000000), V.int (1 + cell / 6), V.int (-1 - cell / 6)]) (i := cell % 6) (by omega) (by show cell % 6 < 6; omega)
        obtain ⟨n, rfl, n0, nb⟩ : ∃ n : Int, nv = .int n ∧ n ≠ 0 ∧ n.natAbs < 10 ^ 8 := by
          simp only [List.mem_cons, List.not_mem_nil, or_false] at mnv
          rcases mnv with rfl | rfl | rfl | rfl | rfl | rfl
          · exact ⟨_, rfl, by decide, by decide⟩
          · exact ⟨_, rfl, by decide, by decide⟩
          · exact ⟨_, rfl, by decide, by decide⟩
          · exact ⟨_, rfl, by decide, by decide⟩
          · exact ⟨_, rfl, by omega, by omega⟩
          · exact ⟨_, rfl, by omega, by omega⟩
        refine ⟨l1, _, _, _, rfl, rfl, .of upd_same, hnv, ?_⟩
        have s3 := sm.trans (same_upd n1 (o := .lst [V.int 1, V.int (-1), V.int 1000000, V.int (-1000000), V.int (1 + cell / 6), V.int (-1 - cell / 6)]))
        have ht3 := same_upd n1 (o := .lst [V.int 1, V.int (-1), V.int 1000000, V.int (-1000000), V.int (1 + cell / 6), V.int (-1 - cell / 6)]) _ _ ht
        have hT3 : A2 (TmX K tl (upd G' l1 (.lst [V.int 1, V.int (-1), V.int 1000000, V.int (-1000000), V.int (1 + cell / 6), V.int (-1 - cell / 6)]))) zs ts := hT.mono fun v b z => TmX.mono _ _ v b (sx (same_upd n1)) z
        generalize upd G' l1 _ = G3 at s3 ht3 hT3
        have hp3 := s3 _ _ hp
        have qb3 := Same.seqT s3 qb
        refine ⟨.ref tl, rfl, .inl ⟨rfl, _, .of ht3⟩, _, rfl, .ref p, rfl, _, rfl, p, _, _, _, rfl, rfl, .of hp3, ab, b, _, _, _, rfl, rfl, qb3, rfl, .ref p, rfl, _, rfl, p, _, _, _, rfl, rfl, .of hp3, ab, b, _, _, _, rfl, rfl, qb3, rfl, by show 3 ≤ sizeLine; decide, fun t nt3 => ?_⟩
        have tt : t ≠ tl := fun z => by rw [z, ht3] at nt3; cases nt3
        refine ⟨tl, _, _, rfl, rfl, same_upd nt3 _ _ ht3, small' (by have := hT3.len; omega), same_over (s3.trans (same_upd nt3)) nt, _, _, _, _, ts ++ [⟨.inl n, (ps[i]).1, (ps[i]).2⟩], rfl, upd_same, A2.snoc ⟨t, rfl, tt, .of (by rw [upd_ne tt]; exact upd_same)⟩ (hT3.mono fun v b z => TmX.mono _ _ v b ((sx (same_upd nt3)).trans SameX.put) z), fun x hx => ?_, by rw [List.length_append, hn2]; rfl⟩
        rcases List.mem_append.mp hx with hx | hx
        · exact he x hx
        · simp at hx; subst hx; exact ⟨pk, pj, n, rfl, n0, nb⟩
      · obtain ⟨sm, v8, v9, v10, zs, ts, rfl, ht, hT, he, hn2⟩ := pv
        refine ⟨_, rfl, _, rfl, by show 3 ≤ sizeLine; decide, fun t nt2 => ?_⟩
        exact q _ (.ref t) ⟨true, 0, 0, ts, src⟩ tl (s2.trans (sm.trans (same_upd nt2))) (s2.free nt) ⟨t, rfl, .inl ⟨rfl, .of upd_same⟩⟩ ⟨zs, .of (same_upd nt2 _ _ ht), hT.mono fun v b z => (TmX.tm z).same (same_upd nt2)⟩ (vl_ex he gs (by have := hA.len; omega))
    · -- a sized law, or one number
      refine ⟨.ref a, rfl, _, rfl, _, _, rfl, rfl, _, rfl, _, rfl, _, _, rfl, rfl, a, ds, _, many, size + 2, rfl, ha.same s1, by omega, hm0, by omega, fun Hb p ps sb np ⟨xs, hp, hA⟩ hb hl hne => ?_⟩
      have s2 := s1.trans sb
      have h0 : 0 < ps.length := by
        rcases Nat.eq_zero_or_pos ps.length with z | z
        · exact absurd (List.length_eq_zero_iff.mp z) (hne (by omega))
        · exact z
      have el := hA.len
      refine ⟨.ref p, rfl, p, _, rfl, .inl (.of hp), 1, (xs.length : Nat), rfl, ⟨by decide, by decide, by omega, by omega⟩, fun D nD => ?_⟩
      have gab : ∀ i : Nat, 1 + i < 8 → ∃ c, atI ("ab" : Str).cps.toList ((1 + (i : Int)) / 8) = some c ∧ c < 200 := fun i h => let2 (by omega) (by omega)
      refine lc_inv (walk_range (lo := 1) (n := ((xs.length : Nat) - (1 : Int)).toNat)) (fun i G ys => ∃ ts, A2 (TmX K D G) ys ts ∧ (∀ t ∈ ts, SzT many t) ∧ ts.length = i) nD (fun _ _ => trivial) (small' (by omega)) ⟨[], .nil, (fun _ z => by cases z), rfl⟩ (fun i x G Hx ys hi sm hD hR y Qt Qf qt qf => ?_) (fun G ys sm hD hR => ?_)
      · obtain ⟨rfl, rfl⟩ := y
        obtain ⟨ts, hT, he, hn2⟩ := hR
        have hi' : 1 + i < ps.length := by omega
        have e1 : (1 + (i : Int)) = ((1 + i : Nat) : Int) := by omega
        obtain ⟨b, ab, qb⟩ := pl_at hA hi'
        obtain ⟨pk, pj⟩ := hb _ (List.getElem_mem hi')
        rw [← e1] at ab
        obtain ⟨c, hc, gc⟩ := gab i (by omega)
        have gt : GS 3 (toString (1 + (i : Int)) : Str) := by rw [e1]; exact GS.int (by omega)
        have lgt : (1 + (i : Int)).natAbs.log2 < 1920 := log_small (by omega)
        have k1 : GS 4 (("s" : Str) ++ (toString ((number : Nat) : Int) : Str)) := GS.add (n := 1) ⟨by decide +kernel, by decide +kernel⟩ gn
        have k2 : GS 5 (("s" : Str) ++ (toString ((number : Nat) : Int) : Str) ++ ("." : Str)) := k1.add (m := 1) ⟨by decide +kernel, by decide +kernel⟩
        have k3 := k2.add (GS.one gc)
        have k4 := k3.add gt
        have z1 := k1.1
        have z2 := k2.1
        have z3 := k3.1
        have z4 := k4.1
        rw [Str.length_append] at z1 z2 z3 z4
        have hp3 := sm _ _ hp
        have qb3 := Same.seqT sm qb
        refine ⟨rfl, _, rfl, _, rfl, lgn, _, _, rfl, rfl, small (by omega), _, _, rfl, rfl, small (by omega), _, rfl, _, _, rfl, rfl, ⟨by decide, by decide⟩, _, _, c, rfl, rfl, (by decide +kernel), hc, _, _, rfl, rfl, small (by omega), _, rfl, _, rfl, lgt, _, _, rfl, rfl, small (by omega),
          .ref p, rfl, _, rfl, p, _, _, _, rfl, rfl, .of hp3, ab, b, _, _, _, rfl, rfl, qb3, rfl, .ref p, rfl, _, rfl, p, _, _, _, rfl, rfl, .of hp3, ab, b, _, _, _, rfl, rfl, qb3, rfl, by show 3 ≤ sizeLine; decide, fun t nt3 => ?_⟩
        have tD : t ≠ D := fun z => by rw [z, hD] at nt3; cases nt3
        refine qt _ _ (same_upd nt3) ⟨ts ++ [⟨.inr _, (ps[1 + i]).1, (ps[1 + i]).2⟩], A2.snoc ⟨t, rfl, tD, .of (by rw [upd_ne tD]; exact upd_same)⟩ (hT.mono fun v b z => TmX.mono _ _ v b ((sx (same_upd nt3)).trans SameX.put) z), fun x hx => ?_, by rw [List.length_append, hn2]; rfl⟩
        rcases List.mem_append.mp hx with hx | hx
        · exact he x hx
        · simp at hx; subst hx; exact ⟨pk, pj, _, rfl, k4.mono (by decide)⟩
      · obtain ⟨ts, hT, he, hn2⟩ := hR
        obtain ⟨b, ab, qb⟩ := pl_at hA h0
        obtain ⟨pk, pj⟩ := hb _ (List.getElem_mem h0)
        have hp3 := sm _ _ hp
        have qb3 := Same.seqT sm qb
        refine ⟨.ref D, rfl, D, _, rfl, .inl (.of hD), rfl, _, rfl, ite2 (fun _ => ?_) (fun _ => ?_)⟩
        · refine ⟨.ref p, rfl, p, _, _, _, rfl, rfl, .of hp3, ab, b, _, _, _, rfl, rfl, qb3, rfl, .ref p, rfl, p, _, _, _, rfl, rfl, .of hp3, ab, b, _, _, _, rfl, rfl, qb3, rfl, by show 3 ≤ sizeLine; decide, fun t nt => ?_⟩
          refine ⟨by show 1 ≤ sizeLine; decide, fun l nl => ⟨_, rfl, by show 3 ≤ sizeLine; decide, fun u nu => ?_⟩⟩
          have tl : t ≠ l := fun z => by rw [← z, upd_same] at nl; cases nl
          refine q _ (.ref u) ⟨true, 0, 0, [⟨.inl 2, (ps[0]).1, (ps[0]).2⟩], src⟩ l (s2.trans (sm.trans ((same_upd nt).trans ((same_upd nl).trans (same_upd nu))))) ((s2.trans (sm.trans (same_upd nt))).free nl) ⟨u, rfl, .inl ⟨rfl, .of upd_same⟩⟩ ⟨_, .of (same_upd nu _ _ upd_same), .cons ⟨t, rfl, .of (same_upd nu _ _ (same_upd nl _ _ upd_same))⟩ .nil⟩ (vl_ex (fun x hx => ?_) gs (by show 1 ≤ 130; decide))
          simp at hx; subst hx; exact ⟨pk, pj, 2, rfl, by decide, by decide⟩
        · refine ⟨.ref p, rfl, p, _, _, _, rfl, rfl, .of hp3, ab, b, _, _, _, rfl, rfl, qb3, rfl, .ref p, rfl, p, _, _, _, rfl, rfl, .of hp3, ab, b, _, _, _, rfl, rfl, qb3, rfl, _, rfl, _, rfl, by show 5 ≤ sizeLine; decide, fun u nu => ?_⟩
          exact q _ (.ref u) ⟨false, (ps[0]).1, (ps[0]).2, ts, src⟩ D (s2.trans (sm.trans (same_upd nu))) (s2.free nD) ⟨u, rfl, .inr ⟨rfl, .of upd_same⟩⟩ ⟨_, .of (same_upd nu _ _ hD), hT.mono fun v b z => (TmX.tm z).same (same_upd nu)⟩ (vl_sz pk pj he gs (by omega))
end
-- P10
section
variable {P : Program} {w : World} {K : PySem.W.Frag} {mg : Str → Option Value} {base : Heap}
def sp_law_long (K : PySem.W.Frag) : Sp := fun vs H Q _ => ∃ (a : Addr) (ds : List Int) (k : Int) (many : Nat), vs = [.ref a, .int k, .int (many : Nat)] ∧ IL H a ds ∧ 0 ≤ k ∧ 0 < many ∧ many ≤ 30 ∧ OutLaw K many H Q
theorem ok_law_long (T : Txt K mg) : FnOk P w K mg base CX0 2 T.law_long.a T.law_long.fd ["draws", "first", "many"] (sp_law_long K) := by
  refine T.law_long.F.ok sc_law_long (fun vs H Q E h => ?_) (fun cdv A outer s H vs Q E hr h => ?_)
  · obtain ⟨a, ds, k, m, rfl, _⟩ := h
    rfl
  · obtain ⟨a, ds, k, many, rfl, ha, hk, hm0, hm, q⟩ := h
    refine ⟨_, (pss_cons (ps_set (i := 3) sc_law_long.nd rfl (.inr rfl) (pe_op op_add pe_int (pe_call (ok_law_at T) (hr.mono (by decide)) (by rfl) T.law_at.g T.law_at.F.kp T.law_at.b .nil pass0 (pa_cons (pv 0) (pa_cons (pv 1) (pa_cons (pe_op op_mul pe_int (pv 2)) pa_nil))))))
      (pss_cons (ps_set (i := 4) sc_law_long.nd rfl (.inr rfl) (pe_lc (own := [("t", 6)]) rfl sc_law_long.nd (pi_range1 (by rfl) T.m_range (pa_cons (pv 3) pa_nil)) (blkOk_by (N := ["draws", "first", "many", "size", "places", "terms", "t"]) (sc := defScope s_law_long) (by decide +kernel)) (fun _ _ _ _ _ => (pg_name (i := 6) sc_law_long.nd rfl (.inl rfl))) (fun _ _ _ _ _ => pts_nil) (fun _ _ _ _ _ => (pe_tup (pa_cons (pe_op op_mod (pe_callTy call_int1 (by rfl) T.m_int (by decide +kernel) (pa_cons (pv 6) pa_nil)) pe_int) (pa_cons (pe_op op_mod (pe_callTy call_int1 (by rfl) T.m_int (by decide +kernel) (pa_cons (pe_op op_fdiv (pv 6) pe_int) pa_nil)) (pv 2)) pa_nil))))))
      (pss_cons (ps_if (PW.pt (pw_or (pt_cmpR op_lt (pv 3) pe_int (nomark _)) (pw_or1 (pt_cmpR op_eq (pe_call (ok_law_at T) (hr.mono (by decide)) (by rfl) T.law_at.g T.law_at.F.kp T.law_at.b .nil pass0 (pa_cons (pv 0) (pa_cons (pe_op op_add (pv 1) pe_int) (pa_cons pe_int pa_nil)))) pe_int (nomark _)))))
        (pss_one (ps_ret (pe_tup (pa_cons pe_str (pa_cons (pe_lc (own := [("t", 6)]) rfl sc_law_long.nd (pi_range1 (by rfl) T.m_range (pa_cons (pv 3) pa_nil)) (blkOk_by (N := ["draws", "first", "many", "size", "places", "terms", "t"]) (sc := defScope s_law_long) (by decide +kernel)) (fun _ _ _ _ _ => (pg_name (i := 6) sc_law_long.nd rfl (.inl rfl))) (fun _ _ _ _ _ => pts_nil) (fun _ _ _ _ _ => (pe_tup (pa_cons (pe_op op_sub (pe_op op_add pe_int (pe_op op_mul pe_int (pv 6))) pe_int) (pa_cons (pe_ix (r := rIxT K) ix_tup (pe_ix (r := rIxL K) ix_list (pv 4) (pv 6) (fun _ _ => rfl)) pe_int (fun _ _ => rfl)) (pa_cons (pe_ix (r := rIxT K) ix_tup (pe_ix (r := rIxL K) ix_list (pv 4) (pv 6) (fun _ _ => rfl)) pe_int (fun _ _ => rfl)) pa_nil)))))) (pa_cons (pe_op op_mulS pe_str pe_int) pa_nil))))))
        pss_nil)
      (pss_cons (ps_setLc (i := 5) (own := [("t", 6)]) rfl sc_law_long.nd rfl rfl (sw_true rfl rfl rfl (by decide +kernel)) (pi_range2 (by rfl) T.m_range (pa_cons pe_int (pa_cons (pv 3) pa_nil))) (blkOk_by (N := ["draws", "first", "many", "size", "places", "terms", "t"]) (sc := defScope s_law_long) (by decide +kernel)) (fun _ _ _ _ _ => (pg_name (i := 6) sc_law_long.nd rfl (.inl rfl))) (fun _ _ _ _ _ => pts_nil) (fun _ _ _ _ _ => (pe_tup (pa_cons (pe_op op_add_str (pe_op op_add_str pe_str (pe_callTy call_str_int (by rfl) T.m_str (by decide +kernel) (pa_cons (pv 6) pa_nil))) (pe_op op_mulS pe_str (pe_op op_mul pe_int (pe_callTy call_int1 (by rfl) T.m_int (by decide +kernel) (pa_cons (pe_cmpR op_eq (pv 6) (pe_op op_sub (pv 3) pe_int) (nomark _)) pa_nil))))) (pa_cons (pe_ix (r := rIxT K) ix_tup (pe_ix (r := rIxL K) ix_list (pv 4) (pv 6) (fun _ _ => rfl)) pe_int (fun _ _ => rfl)) (pa_cons (pe_ix (r := rIxT K) ix_tup (pe_ix (r := rIxL K) ix_list (pv 4) (pv 6) (fun _ _ => rfl)) pe_int (fun _ _ => rfl)) pa_nil))))))
      (pss_one (ps_ret (pe_tup (pa_cons pe_str (pa_cons (pe_ix ix_tup (pe_ix ix_list (pv 4) pe_int (fun _ _ => rfl)) pe_int (fun _ _ => rfl)) (pa_cons (pe_ix ix_tup (pe_ix ix_list (pv 4) pe_int (fun _ _ => rfl)) pe_int (fun _ _ => rfl)) (pa_cons (pv 5) (pa_cons pe_str pa_nil)))))))))))), ?_⟩
    refine ⟨.ref a, rfl, _, rfl, _, rfl, _, _, rfl, rfl, .inl ⟨by decide, by decide⟩, a, ds, _, 4 * (many : Int), rfl, ha, hk, by omega, fun r r1 r2 => ?_⟩
    obtain ⟨size, es, z1, z2⟩ : ∃ n : Nat, (1 + r) = (n : Int) ∧ 1 ≤ n ∧ n ≤ 120 := ⟨(1 + r).toNat, by omega, by omega, by omega⟩
    refine ⟨_, _, rfl, rfl, ?_⟩
    dsimp only
    rw [es]
    refine ⟨_, rfl, (size : Nat), rfl, by omega, by omega, fun D nD => ?_⟩
    rw [Int.toNat_natCast]
    refine lc_inv (walk_range (lo := 0) (n := size)) (fun i G ys => ∃ ps : List (Nat × Nat), A2 (PTX K D G) ys ps ∧ (∀ x ∈ ps, x.1 < 4 ∧ x.2 < many) ∧ ps.length = i) nD (fun _ _ => trivial) (small' (by omega)) ⟨[], .nil, (fun _ z => by cases z), rfl⟩ (fun i x G Hx ys hi sm hD hR y Qt Qf qt qf => ?_) (fun G xs sm hD hR => ?_)
    · obtain ⟨rfl, rfl⟩ := y
      obtain ⟨ps, hA, hb, hn⟩ := hR
      refine ⟨rfl, _, rfl, .inl ⟨_, rfl, _, _, rfl, rfl, (by show (0 : Int) < _; decide), _, rfl, _, _, rfl, rfl, ⟨by decide, by decide⟩, .inl ⟨_, rfl, _, rfl, _, _, rfl, rfl, by omega, by show 2 ≤ sizeLine; decide, fun t nt => ?_⟩⟩⟩
      dsimp only
      obtain ⟨k1, e1⟩ : ∃ j : Nat, (0 + (i : Int)) % 4 = (j : Int) := ⟨((0 + (i : Int)) % 4).toNat, by omega⟩
      have b2 : 0 ≤ (0 + (i : Int)) / 4 % (many : Int) := Int.emod_nonneg _ (by omega)
      have b3 : (0 + (i : Int)) / 4 % (many : Int) < many := Int.emod_lt_of_pos _ (by omega)
      obtain ⟨j1, e2⟩ : ∃ j : Nat, (0 + (i : Int)) / 4 % (many : Int) = (j : Int) := ⟨_, (Int.toNat_of_nonneg b2).symm⟩
      rw [e1, e2]
      have tD : t ≠ D := fun z => by rw [z, hD] at nt; cases nt
      refine qt _ _ (same_upd nt) ⟨ps ++ [(k1, j1)], A2.snoc ⟨t, rfl, tD, .of (by rw [upd_ne tD]; exact upd_same)⟩ (hA.mono fun v b z => PTX.mono _ _ v b ((sx (same_upd nt)).trans SameX.put) z), fun x hx => ?_, by rw [List.length_append, hn]; rfl⟩
      rcases List.mem_append.mp hx with hx | hx
      · exact hb x hx
      · simp at hx; subst hx; exact ⟨by show k1 < 4; omega, by show j1 < many; omega⟩
    · obtain ⟨ps, hA', hb, hn⟩ := hR
      have hA : A2 (PT2 K G) xs ps := hA'.mono fun _ _ => PTX.pt
      have el := hA.len
      refine ⟨_, rfl, _, _, rfl, rfl, _, rfl, ?_⟩
      have gw : GS 200 (Txt.mul ("w" : Str) 200) := GS.mul ⟨by decide +kernel, by decide +kernel⟩ (by omega)
      refine ite2 (fun _ => ?_) (fun h2 => ?_)
      ·
        refine ⟨_, rfl, (size : Nat), rfl, by omega, by omega, fun D2 nD2 => ?_⟩
        rw [Int.toNat_natCast]
        refine lc_inv (walk_range (lo := 0) (n := size)) (fun i G2 ys => ∃ ts, A2 (TmX K D2 G2) ys ts ∧ (∀ t ∈ ts, ExT many t) ∧ ts.length = i) nD2 (fun _ _ => trivial) (small' (by omega)) ⟨[], .nil, (fun _ z => by cases z), rfl⟩ (fun i x G2 Hx ys hi sm2 hD2 hR y Qt Qf qt qf => ?_) (fun G2 ys sm2 hD2 hR => ?_)
        · obtain ⟨rfl, rfl⟩ := y
          obtain ⟨ts, hT, he, hn2⟩ := hR
          have hi' : i < ps.length := by omega
          obtain ⟨b, ab, qb⟩ := pl_at hA hi'
          obtain ⟨pk, pj⟩ := hb _ (List.getElem_mem hi')
          rw [← Int.zero_add ((i : Nat) : Int)] at ab
          have hp3 := sm2 _ _ hD
          have qb3 := Same.seqT sm2 qb
          refine ⟨rfl, _, rfl, _, _, rfl, rfl, .inl ⟨by decide, by decide⟩, _, _, rfl, rfl, _, _, rfl, rfl, .ref D, rfl, _, rfl, D, _, _, _, rfl, rfl, .of hp3, ab, b, _, _, _, rfl, rfl, qb3, rfl, .ref D, rfl, _, rfl, D, _, _, _, rfl, rfl, .of hp3, ab, b, _, _, _, rfl, rfl, qb3, rfl, by show 3 ≤ sizeLine; decide, fun t nt3 => ?_⟩
          have tD : t ≠ D2 := fun z => by rw [z, hD2] at nt3; cases nt3
          refine qt _ _ (same_upd nt3) ⟨ts ++ [⟨.inl (1 + 8000 * (0 + (i : Int)) - 500000), (ps[i]).1, (ps[i]).2⟩], A2.snoc ⟨t, rfl, tD, .of (by rw [upd_ne tD]; exact upd_same)⟩ (hT.mono fun v b z => TmX.mono _ _ v b ((sx (same_upd nt3)).trans SameX.put) z), fun x hx => ?_, by rw [List.length_append, hn2]; rfl⟩
          rcases List.mem_append.mp hx with hx | hx
          · exact he x hx
          · simp at hx; subst hx; exact ⟨pk, pj, _, rfl, by omega, by omega⟩
        · obtain ⟨ts, hT, he, hn2⟩ := hR
          refine ⟨_, _, rfl, rfl, (by decide +kernel), by decide, by decide, by show 3 ≤ sizeLine; decide, fun u nu => ?_⟩
          exact q _ (.ref u) ⟨true, 0, 0, ts, Txt.mul ("w" : Str) 200⟩ D2 (sm.trans (sm2.trans (same_upd nu))) (sm.free nD2) ⟨u, rfl, .inl ⟨rfl, .of upd_same⟩⟩ ⟨_, .of (same_upd nu _ _ hD2), hT.mono fun v b z => (TmX.tm z).same (same_upd nu)⟩ (vl_ex he (gw.mono (by decide)) (by omega))
      · refine ⟨.ref a, rfl, _, rfl, _, _, rfl, rfl, a, ds, _, 2, rfl, ha.same sm, by omega, by decide, fun b0 b1 b2 => ?_⟩
        refine ⟨rfl, _, rfl, ite2 (fun _ => ?_) (fun _ => ?_)⟩
        ·
          refine ⟨_, rfl, (size : Nat), rfl, by omega, by omega, fun D2 nD2 => ?_⟩
          rw [Int.toNat_natCast]
          refine lc_inv (walk_range (lo := 0) (n := size)) (fun i G2 ys => ∃ ts, A2 (TmX K D2 G2) ys ts ∧ (∀ t ∈ ts, ExT many t) ∧ ts.length = i) nD2 (fun _ _ => trivial) (small' (by omega)) ⟨[], .nil, (fun _ z => by cases z), rfl⟩ (fun i x G2 Hx ys hi sm2 hD2 hR y Qt Qf qt qf => ?_) (fun G2 ys sm2 hD2 hR => ?_)
          · obtain ⟨rfl, rfl⟩ := y
            obtain ⟨ts, hT, he, hn2⟩ := hR
            have hi' : i < ps.length := by omega
            obtain ⟨b, ab, qb⟩ := pl_at hA hi'
            obtain ⟨pk, pj⟩ := hb _ (List.getElem_mem hi')
            rw [← Int.zero_add ((i : Nat) : Int)] at ab
            have hp3 := sm2 _ _ hD
            have qb3 := Same.seqT sm2 qb
            refine ⟨rfl, _, rfl, _, _, rfl, rfl, .inl ⟨by decide, by decide⟩, _, _, rfl, rfl, _, _, rfl, rfl, .ref D, rfl, _, rfl, D, _, _, _, rfl, rfl, .of hp3, ab, b, _, _, _, rfl, rfl, qb3, rfl, .ref D, rfl, _, rfl, D, _, _, _, rfl, rfl, .of hp3, ab, b, _, _, _, rfl, rfl, qb3, rfl, by show 3 ≤ sizeLine; decide, fun t nt3 => ?_⟩
            have tD : t ≠ D2 := fun z => by rw [z, hD2] at nt3; cases nt3
            refine qt _ _ (same_upd nt3) ⟨ts ++ [⟨.inl (1 + 8000 * (0 + (i : Int)) - 500000), (ps[i]).1, (ps[i]).2⟩], A2.snoc ⟨t, rfl, tD, .of (by rw [upd_ne tD]; exact upd_same)⟩ (hT.mono fun v b z => TmX.mono _ _ v b ((sx (same_upd nt3)).trans SameX.put) z), fun x hx => ?_, by rw [List.length_append, hn2]; rfl⟩
            rcases List.mem_append.mp hx with hx | hx
            · exact he x hx
            · simp at hx; subst hx; exact ⟨pk, pj, _, rfl, by omega, by omega⟩
          · obtain ⟨ts, hT, he, hn2⟩ := hR
            refine ⟨_, _, rfl, rfl, (by decide +kernel), by decide, by decide, by show 3 ≤ sizeLine; decide, fun u nu => ?_⟩
            exact q _ (.ref u) ⟨true, 0, 0, ts, Txt.mul ("w" : Str) 200⟩ D2 (sm.trans (sm2.trans (same_upd nu))) (sm.free nD2) ⟨u, rfl, .inl ⟨rfl, .of upd_same⟩⟩ ⟨_, .of (same_upd nu _ _ hD2), hT.mono fun v b z => (TmX.tm z).same (same_upd nu)⟩ (vl_ex he (gw.mono (by decide)) (by omega))
        · have h2' : 2 ≤ size := by
            rcases Nat.lt_or_ge size 2 with z | z
            · exact absurd (decide_eq_true (by omega)) h2
            · exact z
          refine ⟨_, rfl, 1, (size : Nat), rfl, ⟨by decide, by decide, by omega, by omega⟩, fun D2 nD2 => ?_⟩
          refine lc_inv (walk_range (lo := 1) (n := ((size : Nat) - (1 : Int)).toNat)) (fun i G2 ys => ∃ ts, A2 (TmX K D2 G2) ys ts ∧ (∀ t ∈ ts, SzT many t) ∧ ts.length = i) nD2 (fun _ _ => trivial) (small' (by omega)) ⟨[], .nil, (fun _ z => by cases z), rfl⟩ (fun i x G2 Hx ys hi sm2 hD2 hR y Qt Qf qt qf => ?_) (fun G2 ys sm2 hD2 hR => ?_)
          · obtain ⟨rfl, rfl⟩ := y
            obtain ⟨ts, hT, he, hn2⟩ := hR
            have hi' : 1 + i < ps.length := by omega
            have e1 : (1 + (i : Int)) = ((1 + i : Nat) : Int) := by omega
            obtain ⟨b, ab, qb⟩ := pl_at hA hi'
            obtain ⟨pk, pj⟩ := hb _ (List.getElem_mem hi')
            rw [← e1] at ab
            have hp3 := sm2 _ _ hD
            have qb3 := Same.seqT sm2 qb
            have gt : GS 3 (toString (1 + (i : Int)) : Str) := by rw [e1]; exact GS.int (by omega)
            have lgt : (1 + (i : Int)).natAbs.log2 < 1920 := log_small (by omega)
            have k1 : GS 7 (("long" : Str) ++ (toString (1 + (i : Int)) : Str)) := GS.add (n := 4) ⟨by decide +kernel, by decide +kernel⟩ gt
            have gz : GS 1 ("z" : Str) := ⟨by decide +kernel, by decide +kernel⟩
            have hx : ∀ c : Bool, 190 * (if c = true then (1 : Int) else 0) ≤ 190 ∧ 0 ≤ 190 * (if c = true then (1 : Int) else 0) := fun c => by cases c <;> decide
            have gm : ∀ c : Bool, GS 190 (Txt.mul ("z" : Str) (190 * (if c = true then (1 : Int) else 0))) := fun c => gz.mul (hx c).1
            have k2 := fun c => k1.add (gm c)
            have z1 := k1.1
            rw [Str.length_append] at z1
            have z2 : ∀ c : Bool, (("long" : Str) ++ (toString (1 + (i : Int)) : Str)).length + (Txt.mul ("z" : Str) (190 * (if c = true then (1 : Int) else 0))).length ≤ 197 := fun c => by have := (k2 c).1; rw [Str.length_append] at this; exact this
            let c0 : Bool := decide (V.int (1 + (i : Int)) = V.int ((size : Int) - 1))
            have k5 : GS 200 ((("long" : Str) ++ (toString (1 + (i : Int)) : Str)) ++ (Txt.mul ("z" : Str) (190 * (if c0 = true then (1 : Int) else 0)))) := (k2 c0).mono (by decide)
            refine ⟨rfl, _, rfl, _, rfl, lgt, _, _, rfl, rfl, small (by omega), _, rfl, _, rfl, _, _, rfl, rfl, rfl, .inr ⟨c0, rfl, _, _, rfl, rfl, .inl ⟨by decide, by decide⟩, _, _, rfl, rfl, gz.1, Int.le_trans (by decide) (hx c0).2, Int.le_trans (hx c0).1 (by decide), _, _, rfl, rfl, small (Nat.le_trans (z2 c0) (by decide)),
              .ref D, rfl, _, rfl, D, _, _, _, rfl, rfl, .of hp3, ab, b, _, _, _, rfl, rfl, qb3, rfl, .ref D, rfl, _, rfl, D, _, _, _, rfl, rfl, .of hp3, ab, b, _, _, _, rfl, rfl, qb3, rfl, by show 3 ≤ sizeLine; decide, fun t nt3 => ?_⟩⟩
            have tD : t ≠ D2 := fun z => by rw [z, hD2] at nt3; cases nt3
            refine qt _ _ (same_upd nt3) ⟨ts ++ [⟨.inr ((("long" : Str) ++ (toString (1 + (i : Int)) : Str)) ++ (Txt.mul ("z" : Str) (190 * (if c0 = true then (1 : Int) else 0)))), (ps[1 + i]).1, (ps[1 + i]).2⟩], A2.snoc ⟨t, rfl, tD, .of (by rw [upd_ne tD]; exact upd_same)⟩ (hT.mono fun v b z => TmX.mono _ _ v b ((sx (same_upd nt3)).trans SameX.put) z), fun x hx => ?_, by rw [List.length_append, hn2]; rfl⟩
            rcases List.mem_append.mp hx with hx | hx
            · exact he x hx
            · simp at hx; subst hx; exact ⟨pk, pj, _, rfl, k5⟩
          · obtain ⟨ts, hT, he, hn2⟩ := hR
            obtain ⟨b, ab, qb⟩ := pl_at hA (show 0 < ps.length by omega)
            obtain ⟨pk, pj⟩ := hb _ (List.getElem_mem (show 0 < ps.length by omega))
            have hp3 := sm2 _ _ hD
            have qb3 := Same.seqT sm2 qb
            refine ⟨.ref D, rfl, D, _, _, _, rfl, rfl, .of hp3, ab, b, _, _, _, rfl, rfl, qb3, rfl, .ref D, rfl, D, _, _, _, rfl, rfl, .of hp3, ab, b, _, _, _, rfl, rfl, qb3, rfl, _, rfl, by show 5 ≤ sizeLine; decide, fun u nu => ?_⟩
            exact q _ (.ref u) ⟨false, (ps[0]).1, (ps[0]).2, ts, ""⟩ D2 (sm.trans (sm2.trans (same_upd nu))) (sm.free nD2) ⟨u, rfl, .inr ⟨rfl, .of upd_same⟩⟩ ⟨_, .of (same_upd nu _ _ hD2), hT.mono fun v b z => (TmX.tm z).same (same_upd nu)⟩ (vl_sz pk pj he ⟨by decide +kernel, by decide +kernel⟩ (by omega))
end
-- P11
theorem A2.put {α β : Type} {R : α → β → Prop} {a : α} {b : β} (h : R a b) : ∀ {as : List α} {bs : List β} {j : Nat}, A2 R as bs → A2 R (as.set j a) (bs.set j b)
  | _, _, _, .nil => .nil
  | _, _, 0, .cons _ t => .cons h t
  | _, _, j + 1, .cons x t => .cons x (A2.put h t)
section
variable {P : Program} {w : World} {K : PySem.W.Frag} {mg : Str → Option Value} {base : Heap}
/-- a law whose list of terms is not D -/
def LWd (K : PySem.W.Frag) (D : Addr) (H : Hp) (v : V) (l : Lw) : Prop := ∃ p, p ≠ D ∧ LWp K H v l p ∧ TsL K H p l.ts
theorem LWd.x {D : Addr} {H H' : Hp} {ys : List V} {v : V} {l : Lw} (hD : H D = some (.lst ys)) (s : SameX D H H') (h : LWd K D H v l) : LWd K D H' v l := by
  obtain ⟨p, n, ⟨a, e, q⟩, xs, hx, hr⟩ := h
  exact ⟨p, n, ⟨a, e, q.imp (fun z => ⟨z.1, seqT_x hD s z.2⟩) fun z => ⟨z.1, seqT_x hD s z.2⟩⟩, xs, seqL_x n s hx, hr.mono fun _ _ ⟨b, e, z⟩ => ⟨b, e, seqT_x hD s z⟩⟩
theorem LWd.lw {D : Addr} {H : Hp} {v : V} {l : Lw} (h : LWd K D H v l) : LW K H v l := let ⟨p, _, ⟨a, e, q⟩, t⟩ := h; ⟨a, p, e, t, q⟩
def sp_law_model (K : PySem.W.Frag) : Sp := fun vs H Q _ => ∃ (a : Addr) (ds : List Int) (k : Int), vs = [.ref a, .int k] ∧ IL H a ds ∧ 0 ≤ k ∧ ∀ H' v m, Same H H' → MD K H' v m → VM m → Q v H'
theorem ok_law_model (T : Txt K mg) : FnOk P w K mg base CX0 4 T.law_model.a T.law_model.fd ["draws", "first"] (sp_law_model K) := by
  refine T.law_model.F.ok sc_law_model (fun vs H Q E h => ?_) (fun cdv A outer s H vs Q E hr h => ?_)
  · obtain ⟨a, ds, k, rfl, _⟩ := h
    rfl
  · obtain ⟨a, ds, k, rfl, ha, hk, q⟩ := h
    refine ⟨_, (pss_cons (ps_set (i := 2) sc_law_model.nd rfl (.inr rfl) (pe_call (ok_law_at T) (hr.mono (by decide)) (by rfl) T.law_at.g T.law_at.F.kp T.law_at.b .nil pass0 (pa_cons (pv 0) (pa_cons (pv 1) (pa_cons pe_int pa_nil)))))
      (pss_cons (ps_set (i := 3) sc_law_model.nd rfl (.inl rfl) (pe_call (ok_law_at T) (hr.mono (by decide)) (by rfl) T.law_at.g T.law_at.F.kp T.law_at.b .nil pass0 (pa_cons (pv 0) (pa_cons (pe_op op_add (pv 1) pe_int) (pa_cons pe_int pa_nil)))))
      (pss_cons (ps_if (pt_cmpR op_eq (pe_call (ok_law_at T) (hr.mono (by decide)) (by rfl) T.law_at.g T.law_at.F.kp T.law_at.b .nil pass0 (pa_cons (pv 0) (pa_cons (pe_op op_add (pv 1) pe_int) (pa_cons pe_int pa_nil)))) pe_int (nomark _))
        (pss_cons (ps_set (i := 2) sc_law_model.nd rfl (.inr rfl) (pe_op op_add pe_int (pe_call (ok_law_at T) (hr.mono (by decide)) (by rfl) T.law_at.g T.law_at.F.kp T.law_at.b .nil pass0 (pa_cons (pv 0) (pa_cons (pv 1) (pa_cons pe_int pa_nil))))))
        (pss_one (ps_set (i := 3) sc_law_model.nd rfl (.inl rfl) (pe_op op_add pe_int (pe_call (ok_law_at T) (hr.mono (by decide)) (by rfl) T.law_at.g T.law_at.F.kp T.law_at.b .nil pass0 (pa_cons (pv 0) (pa_cons (pe_op op_add (pv 1) pe_int) (pa_cons pe_int pa_nil))))))))
        pss_nil)
      (pss_cons (ps_set (i := 4) sc_law_model.nd rfl (.inl rfl) (pe_call (ok_law_quantities T) (hr.mono (by decide)) (by rfl) T.law_quantities.g T.law_quantities.F.kp T.law_quantities.b .nil pass0 (pa_cons (pv 0) (pa_cons (pe_op op_add (pv 1) pe_int) (pa_cons (pv 2) pa_nil)))))
      (pss_cons (ps_setLc (i := 5) (own := [("i", 6)]) rfl sc_law_model.nd rfl rfl (sw_true rfl rfl rfl (by decide +kernel)) (pi_range1 (by rfl) T.m_range (pa_cons (pv 3) pa_nil)) (blkOk_by (N := ["draws", "first", "many", "laws", "quantities", "rows", "i"]) (sc := defScope s_law_model) (by decide +kernel)) (fun _ _ _ _ _ => (pg_name (i := 6) sc_law_model.nd rfl (.inl rfl))) (fun _ _ _ _ _ => pts_nil) (fun _ _ _ _ _ => (pe_call (ok_law_one T) (hr.mono (by decide)) (by rfl) T.law_one.g T.law_one.F.kp T.law_one.b .nil pass0 (pa_cons (pv 0) (pa_cons (pe_op op_add (pe_op op_add (pv 1) pe_int) (pe_op op_mul pe_int (pv 6))) (pa_cons (pv 2) (pa_cons (pv 6) pa_nil)))))))
      (pss_cons (ps_if (pt_cmpR op_gt (pv 2) pe_int (nomark _))
        (pss_one (ps_asg (pe_call (ok_law_long T) (hr.mono (by decide)) (by rfl) T.law_long.g T.law_long.F.kp T.law_long.b .nil pass0 (pa_cons (pv 0) (pa_cons (pe_op op_add (pv 1) pe_int) (pa_cons (pv 2) pa_nil)))) (pg_sub (pv 5) (pe_call (ok_law_at T) (hr.mono (by decide)) (by rfl) T.law_at.g T.law_at.F.kp T.law_at.b .nil pass0 (pa_cons (pv 0) (pa_cons (pe_op op_add (pv 1) pe_int) (pa_cons (pv 3) pa_nil)))) set_list)))
        pss_nil)
      (pss_one (ps_ret (pe_tup (pa_cons (pv 4) (pa_cons (pv 5) pa_nil))))))))))), ?_⟩
    refine ⟨.ref a, rfl, _, rfl, a, ds, k, 7, rfl, ha, hk, by decide, fun m0 m1 m2 => ?_⟩
    refine ⟨.ref a, rfl, _, rfl, _, _, rfl, rfl, a, ds, _, 7, rfl, ha, by omega, by decide, fun l0 l1 l2 => ?_⟩
    refine ⟨.ref a, rfl, _, rfl, _, _, rfl, rfl, a, ds, _, 16, rfl, ha, by omega, by decide, fun c0 c1 c2 => ?_⟩
    refine ⟨rfl, _, rfl, ite2 (fun _ => ?_) (fun _ => ?_)⟩
    · refine ⟨.ref a, rfl, _, rfl, a, ds, k, 2, rfl, ha, hk, by decide, fun n0 n1 n2 => ?_⟩
      refine ⟨_, _, rfl, rfl, .ref a, rfl, _, rfl, _, _, rfl, rfl, a, ds, _, 2, rfl, ha, by omega, by decide, fun o0 o1 o2 => ?_⟩
      refine ⟨_, _, rfl, rfl, ?_⟩
      dsimp only
      obtain ⟨mn, em, hm, hm2⟩ : ∃ n : Nat, 29 + n0 = (n : Int) ∧ n ≤ 30 ∧ True := ⟨(29 + n0).toNat, by omega, by omega, trivial⟩
      obtain ⟨ln, el, hln, hl0⟩ : ∃ n : Nat, 39 + o0 = (n : Int) ∧ n ≤ 40 ∧ (28 < mn → 0 < n) := ⟨(39 + o0).toNat, by omega, by omega, fun _ => by omega⟩
      rw [em, el]
      refine ⟨.ref a, rfl, _, rfl, _, _, rfl, rfl, _, rfl, a, ds, _, mn, rfl, ha, by omega, hm, fun H1 q0 qs s1 nq hq hqn hqg => ?_⟩
      refine ⟨_, rfl, (ln : Nat), rfl, by omega, by omega, fun D nD => ?_⟩
      rw [Int.toNat_natCast]
      refine lc_inv (walk_range (lo := 0) (n := ln)) (fun i G ys => ∃ ls, A2 (LWd K D G) ys ls ∧ (∀ l ∈ ls, VL mn l) ∧ ls.length = i) nD (fun _ _ => trivial) (small' (by omega)) ⟨[], .nil, (fun _ z => by cases z), rfl⟩ (fun i x G Hx ys hi sm hD hR y Qt Qf qt qf => ?_) (fun G xs sm hD hR => ?_)
      · obtain ⟨rfl, rfl⟩ := y
        obtain ⟨ls, hA, hv, hn⟩ := hR
        refine ⟨rfl, .ref a, rfl, _, rfl, _, _, rfl, rfl, _, rfl, _, _, rfl, rfl, .inl ⟨by decide, by decide⟩, _, _, rfl, rfl, _, rfl, _, rfl, a, ds, k + 40 + 12 * (i : Int), mn, i, by show [V.ref a, V.int (k + 40 + 12 * (0 + (i : Int))), V.int (mn : Nat), V.int (0 + (i : Int))] = _; rw [Int.zero_add], ha.same (s1.trans sm), by omega, hm, by omega, fun G2 v l p s2 np lwp tsl vl => ?_⟩
        have pD : p ≠ D := fun z => by rw [z, hD] at np; cases np
        have hD2 := s2 _ _ hD
        refine qt _ _ s2 ⟨ls ++ [l], A2.snoc (LWd.x hD2 SameX.put ⟨p, pD, lwp, tsl⟩) (hA.mono fun v b z => LWd.x hD ((sx s2).trans SameX.put) z), fun x hx => ?_, by rw [List.length_append, hn]; rfl⟩
        rcases List.mem_append.mp hx with hx | hx
        · exact hv x hx
        · simp at hx; subst hx; exact vl
      · obtain ⟨ls, hA, hv, hn⟩ := hR
        have hq2 := sm _ _ hq
        have qD : q0 ≠ D := fun z => by rw [z, nD] at hq; cases hq
        refine ⟨_, rfl, _, _, rfl, rfl, _, rfl, ite2 (fun h28 => ?_) (fun _ => ?_)⟩
        · have h28 := of_decide_eq_true h28
          refine ⟨.ref a, rfl, _, rfl, _, _, rfl, rfl, _, rfl, a, ds, _, mn, rfl, ha.same (s1.trans sm), by omega, by omega, hm, fun G2 v l p s2 np lwp tsl vl => ?_⟩
          have pD : p ≠ D := fun z => by rw [z, hD] at np; cases np
          have hD2 := s2 _ _ hD
          refine ⟨.ref D, rfl, .ref a, rfl, _, rfl, _, _, rfl, rfl, _, rfl, a, ds, _, (ln : Nat), rfl, ha.same (s1.trans (sm.trans s2)), by omega, by omega, fun r r1 r2 => ?_⟩
          have el := hA.len
          refine ⟨D, _, _, r.toNat, rfl, rfl, hD2, ix_ok (by omega) (by omega), .ref q0, rfl, .ref D, rfl, by show 2 ≤ sizeLine; decide, fun t nt => ?_⟩
          have tD : t ≠ D := fun z => by rw [z, upd_same] at nt; cases nt
          have sF : Same H (upd (upd G2 D (.lst (xs.set r.toNat v))) t (.tup [.ref q0, .ref D])) := (same_over (s1.trans (sm.trans s2)) (s1.free nD)).trans (same_upd nt)
          refine q _ (.ref t) ⟨qs, ls.set r.toNat l⟩ sF ⟨t, q0, D, _, rfl, .of upd_same, .of (same_upd nt _ _ (by rw [upd_ne qD]; exact s2 _ _ hq2)), .of (same_upd nt _ _ upd_same), ?_⟩ ⟨⟨by show qs.length ≤ 30; omega, fun x hx => ((hqg x hx).mono (by decide))⟩, by show (ls.set r.toNat l).length ≤ 40; rw [List.length_set]; omega, fun x hx => ?_⟩
          · exact A2.put (LW.same (same_upd nt) (LWd.lw (LWd.x hD2 SameX.put ⟨p, pD, lwp, tsl⟩))) (hA.mono fun v b z => LW.same (same_upd nt) (LWd.lw (LWd.x hD ((sx s2).trans SameX.put) z)))
          · rw [hqn]
            rcases List.mem_or_eq_of_mem_set hx with hx | rfl
            · exact hv x hx
            · exact vl
        · refine ⟨.ref q0, rfl, .ref D, rfl, by show 2 ≤ sizeLine; decide, fun t nt => ?_⟩
          refine q _ (.ref t) ⟨qs, ls⟩ (s1.trans (sm.trans (same_upd nt))) ⟨t, q0, D, _, rfl, .of upd_same, .of (same_upd nt _ _ hq2), .of (same_upd nt _ _ hD), hA.mono fun v b z => LW.same (same_upd nt) (LWd.lw z)⟩ ⟨⟨by show qs.length ≤ 30; omega, fun x hx => ((hqg x hx).mono (by decide))⟩, by show ls.length ≤ 40; omega, fun x hx => by rw [hqn]; exact hv x hx⟩
    · obtain ⟨mn, rfl, hm, hm2⟩ : ∃ n : Nat, m0 = (n : Int) ∧ n ≤ 30 ∧ n < 7 := ⟨m0.toNat, by omega, by omega, by omega⟩
      obtain ⟨ln, rfl, hln, hl0⟩ : ∃ n : Nat, l0 = (n : Int) ∧ n ≤ 40 ∧ (28 < mn → 0 < n) := ⟨l0.toNat, by omega, by omega, fun _ => by omega⟩
      refine ⟨.ref a, rfl, _, rfl, _, _, rfl, rfl, _, rfl, a, ds, _, mn, rfl, ha, by omega, hm, fun H1 q0 qs s1 nq hq hqn hqg => ?_⟩
      refine ⟨_, rfl, (ln : Nat), rfl, by omega, by omega, fun D nD => ?_⟩
      rw [Int.toNat_natCast]
      refine lc_inv (walk_range (lo := 0) (n := ln)) (fun i G ys => ∃ ls, A2 (LWd K D G) ys ls ∧ (∀ l ∈ ls, VL mn l) ∧ ls.length = i) nD (fun _ _ => trivial) (small' (by omega)) ⟨[], .nil, (fun _ z => by cases z), rfl⟩ (fun i x G Hx ys hi sm hD hR y Qt Qf qt qf => ?_) (fun G xs sm hD hR => ?_)
      · obtain ⟨rfl, rfl⟩ := y
        obtain ⟨ls, hA, hv, hn⟩ := hR
        refine ⟨rfl, .ref a, rfl, _, rfl, _, _, rfl, rfl, _, rfl, _, _, rfl, rfl, .inl ⟨by decide, by decide⟩, _, _, rfl, rfl, _, rfl, _, rfl, a, ds, k + 40 + 12 * (i : Int), mn, i, by show [V.ref a, V.int (k + 40 + 12 * (0 + (i : Int))), V.int (mn : Nat), V.int (0 + (i : Int))] = _; rw [Int.zero_add], ha.same (s1.trans sm), by omega, hm, by omega, fun G2 v l p s2 np lwp tsl vl => ?_⟩
        have pD : p ≠ D := fun z => by rw [z, hD] at np; cases np
        have hD2 := s2 _ _ hD
        refine qt _ _ s2 ⟨ls ++ [l], A2.snoc (LWd.x hD2 SameX.put ⟨p, pD, lwp, tsl⟩) (hA.mono fun v b z => LWd.x hD ((sx s2).trans SameX.put) z), fun x hx => ?_, by rw [List.length_append, hn]; rfl⟩
        rcases List.mem_append.mp hx with hx | hx
        · exact hv x hx
        · simp at hx; subst hx; exact vl
      · obtain ⟨ls, hA, hv, hn⟩ := hR
        have hq2 := sm _ _ hq
        have qD : q0 ≠ D := fun z => by rw [z, nD] at hq; cases hq
        refine ⟨_, rfl, _, _, rfl, rfl, _, rfl, ite2 (fun h28 => ?_) (fun _ => ?_)⟩
        · have h28 := of_decide_eq_true h28
          refine ⟨.ref a, rfl, _, rfl, _, _, rfl, rfl, _, rfl, a, ds, _, mn, rfl, ha.same (s1.trans sm), by omega, by omega, hm, fun G2 v l p s2 np lwp tsl vl => ?_⟩
          have pD : p ≠ D := fun z => by rw [z, hD] at np; cases np
          have hD2 := s2 _ _ hD
          refine ⟨.ref D, rfl, .ref a, rfl, _, rfl, _, _, rfl, rfl, _, rfl, a, ds, _, (ln : Nat), rfl, ha.same (s1.trans (sm.trans s2)), by omega, by omega, fun r r1 r2 => ?_⟩
          have el := hA.len
          refine ⟨D, _, _, r.toNat, rfl, rfl, hD2, ix_ok (by omega) (by omega), .ref q0, rfl, .ref D, rfl, by show 2 ≤ sizeLine; decide, fun t nt => ?_⟩
          have tD : t ≠ D := fun z => by rw [z, upd_same] at nt; cases nt
          have sF : Same H (upd (upd G2 D (.lst (xs.set r.toNat v))) t (.tup [.ref q0, .ref D])) := (same_over (s1.trans (sm.trans s2)) (s1.free nD)).trans (same_upd nt)
          refine q _ (.ref t) ⟨qs, ls.set r.toNat l⟩ sF ⟨t, q0, D, _, rfl, .of upd_same, .of (same_upd nt _ _ (by rw [upd_ne qD]; exact s2 _ _ hq2)), .of (same_upd nt _ _ upd_same), ?_⟩ ⟨⟨by show qs.length ≤ 30; omega, fun x hx => ((hqg x hx).mono (by decide))⟩, by show (ls.set r.toNat l).length ≤ 40; rw [List.length_set]; omega, fun x hx => ?_⟩
          · exact A2.put (LW.same (same_upd nt) (LWd.lw (LWd.x hD2 SameX.put ⟨p, pD, lwp, tsl⟩))) (hA.mono fun v b z => LW.same (same_upd nt) (LWd.lw (LWd.x hD ((sx s2).trans SameX.put) z)))
          · rw [hqn]
            rcases List.mem_or_eq_of_mem_set hx with hx | rfl
            · exact hv x hx
            · exact vl
        · refine ⟨.ref q0, rfl, .ref D, rfl, by show 2 ≤ sizeLine; decide, fun t nt => ?_⟩
          refine q _ (.ref t) ⟨qs, ls⟩ (s1.trans (sm.trans (same_upd nt))) ⟨t, q0, D, _, rfl, .of upd_same, .of (same_upd nt _ _ hq2), .of (same_upd nt _ _ hD), hA.mono fun v b z => LW.same (same_upd nt) (LWd.lw z)⟩ ⟨⟨by show qs.length ≤ 30; omega, fun x hx => ((hqg x hx).mono (by decide))⟩, by show ls.length ≤ 40; omega, fun x hx => by rw [hqn]; exact hv x hx⟩
end
-- P12
section
variable {P : Program} {w : World} {K : PySem.W.Frag} {mg : Str → Option Value} {base : Heap}
theorem ex_ite {l : Lw} {s : Str} {A B : Prop} (h : s = "exact") (ht : l.ex = true → A) (hf : l.ex = false → B) : if decide (V.str (if l.ex then "exact" else "sized") = V.str "exact") = true then A else B := by
  rw [str_ex]
  cases e : l.ex with
  | true => exact ht e
  | false => exact iteF (hf e)
theorem ok_law_places_of (T : Txt K mg) : FnOk P w K mg base CX0 1 T.law_places_of.a T.law_places_of.fd ["law"] (sp_places_of K) := by
  refine T.law_places_of.F.ok sc_law_places_of (fun vs H Q E h => ?_) (fun cdv A outer s H vs Q E hr h => ?_)
  · obtain ⟨v, l, rfl, _⟩ := h
    rfl
  · obtain ⟨v, l, rfl, hl, hn, q⟩ := h
    refine ⟨_, (pss_cons (ps_if (pt_cmpR op_eq (pe_ix ix_tup (pv 0) pe_int (fun _ _ => rfl)) pe_str (nomark _))
        (pss_one (ps_ret (pe_lc (own := [("number", 1), ("k", 2), ("j", 3)]) (g := gTup K 3 (gCons (gName 1) (gCons (gName 2) (gCons (gName 3) gNil)))) rfl sc_law_places_of.nd (pi_list (pe_ix ix_tup (pv 0) pe_int (fun _ _ => rfl))) (blkOk_by (N := ["law", "number", "k", "j", "size"]) (sc := defScope s_law_places_of) (by decide +kernel)) (fun _ _ _ _ _ => (pg_tup rfl (pgs_cons (pg_name (i := 1) sc_law_places_of.nd rfl (.inl rfl)) (pgs_cons (pg_name (i := 2) sc_law_places_of.nd rfl (.inl rfl)) (pgs_cons (pg_name (i := 3) sc_law_places_of.nd rfl (.inl rfl)) pgs_nil))))) (fun _ _ _ _ _ => pts_nil) (fun _ _ _ _ _ => (pe_tup (pa_cons (pv 2) (pa_cons (pv 3) pa_nil)))))))
        pss_nil)
      (pss_one (ps_ret (pe_op op_cat (pe_lst (pa_cons (pe_tup (pa_cons (pe_ix ix_tup (pv 0) pe_int (fun _ _ => rfl)) (pa_cons (pe_ix ix_tup (pv 0) pe_int (fun _ _ => rfl)) pa_nil))) pa_nil)) (pe_lc (own := [("size", 4), ("k", 2), ("j", 3)]) (g := gTup K 3 (gCons (gName 4) (gCons (gName 2) (gCons (gName 3) gNil)))) rfl sc_law_places_of.nd (pi_list (pe_ix ix_tup (pv 0) pe_int (fun _ _ => rfl))) (blkOk_by (N := ["law", "number", "k", "j", "size"]) (sc := defScope s_law_places_of) (by decide +kernel)) (fun _ _ _ _ _ => (pg_tup rfl (pgs_cons (pg_name (i := 4) sc_law_places_of.nd rfl (.inl rfl)) (pgs_cons (pg_name (i := 2) sc_law_places_of.nd rfl (.inl rfl)) (pgs_cons (pg_name (i := 3) sc_law_places_of.nd rfl (.inl rfl)) pgs_nil))))) (fun _ _ _ _ _ => pts_nil) (fun _ _ _ _ _ => (pe_tup (pa_cons (pv 2) (pa_cons (pv 3) pa_nil))))))))), ?_⟩
    obtain ⟨a, p, rfl, ⟨xs, hx, hr2⟩, ⟨z, h⟩ | ⟨z, h⟩⟩ := hl
    · refine ⟨_, rfl, a, _, _, _, rfl, rfl, h, rfl, rfl, _, rfl, iteT ?_⟩
      refine ⟨_, rfl, a, _, _, _, rfl, rfl, h, rfl, p, rfl, ⟨xs, hx⟩, fun D nD => ?_⟩
      refine lc_fm (walk_list (xs := xs)) l.ts (fun t => some (t.k, t.j)) (PTX K D) PTX.mono hr2.len.symm nD (fun H' s => s.seq hx) (small' (by have := hr2.len; omega)) (fun i x H' Hx ys t ht sm hD y Qt Qf qt qf => ?_) (fun H' ys sm hD hR => ?_)
      · obtain ⟨rfl, hx⟩ := y
        obtain ⟨t', ht', r⟩ := hr2.get hx
        obtain rfl := Option.some.inj (ht.symm.trans ht')
        obtain ⟨b, rfl, rb⟩ := r.same sm
        refine ⟨b, _, rfl, rb, rfl, _, _, rfl, _, _, rfl, _, _, rfl, rfl, rfl, _, rfl, _, rfl, by show 2 ≤ sizeLine; decide, fun c hc => ?_⟩
        exact qt _ _ _ rfl (same_upd hc) ⟨c, rfl, (fun z => by rw [z, hD] at hc; cases hc), .of upd_same⟩
      · rw [fm_id] at hR
        refine q H' D sm nD ⟨ys, hD, ?_⟩
        unfold Lw.places
        rw [z]
        exact hR.mono fun _ _ => PTX.pt
    · refine ⟨_, rfl, a, _, _, _, rfl, rfl, h, rfl, rfl, _, rfl, iteF ?_⟩
      refine ⟨_, rfl, a, _, _, _, rfl, rfl, h, rfl, _, rfl, a, _, _, _, rfl, rfl, h, rfl, by show 2 ≤ sizeLine; decide, fun t nt => ?_⟩
      refine ⟨by show 1 ≤ sizeLine; decide, fun u nu => ?_⟩
      have tu : t ≠ u := fun z => by rw [← z, upd_same] at nu; cases nu
      have s1 : Same H (upd (upd H t (.tup [.int (l.k : Nat), .int (l.j : Nat)])) u (.lst [V.ref t])) := (same_upd nt).trans (same_upd nu)
      refine ⟨_, rfl, a, _, _, _, rfl, rfl, Same.seqT s1 h, rfl, p, rfl, ⟨xs, s1.seq hx⟩, fun D nD => ?_⟩
      refine lc_fm (walk_list (xs := xs)) l.ts (fun t => some (t.k, t.j)) (PTX K D) PTX.mono hr2.len.symm nD (fun H' s => s.seq (s1.seq hx)) (small' (by have := hr2.len; omega)) (fun i x H' Hx ys t ht sm hD y Qt Qf qt qf => ?_) (fun H' ys sm hD hR => ?_)
      · obtain ⟨rfl, hx⟩ := y
        obtain ⟨t', ht', r⟩ := hr2.get hx
        obtain rfl := Option.some.inj (ht.symm.trans ht')
        obtain ⟨b, rfl, rb⟩ := r.same (s1.trans sm)
        refine ⟨b, _, rfl, rb, rfl, _, _, rfl, _, _, rfl, _, _, rfl, rfl, rfl, _, rfl, _, rfl, by show 2 ≤ sizeLine; decide, fun c hc => ?_⟩
        exact qt _ _ _ rfl (same_upd hc) ⟨c, rfl, (fun z => by rw [z, hD] at hc; cases hc), .of upd_same⟩
      · rw [fm_id] at hR
        have hu : H' u = some (.lst [V.ref t]) := sm _ _ upd_same
        have ht : H' t = some (.tup [.int (l.k : Nat), .int (l.j : Nat)]) := sm _ _ (same_upd nu _ _ upd_same)
        refine ⟨u, D, _, _, rfl, rfl, hu, hD, ?_, fun r nr => ?_⟩
        · have := hR.len
          simp at this
          exact small (by simp; omega)
        · refine q _ r (s1.trans (sm.trans (same_upd nr))) ((s1.trans sm).free nr) ⟨_, upd_same, ?_⟩
          unfold Lw.places
          rw [z]
          exact .cons ⟨t, rfl, .of (same_upd nr _ _ ht)⟩ (hR.mono fun _ _ z => (PTX.pt z).same (same_upd nr))
theorem ok_law_powers (T : Txt K mg) : FnOk P w K mg base CX0 2 T.law_powers.a T.law_powers.fd ["model"] (spRows K fPow) := by
  refine T.law_powers.F.ok sc_law_powers (fun vs H Q E h => ?_) (fun cdv A outer s H vs Q E hr h => ?_)
  · obtain ⟨v, m, rfl, _⟩ := h
    rfl
  · obtain ⟨v, m, rfl, ⟨a, qa, r, xs, rfl, h1, h2, h3, h4⟩, vm, q⟩ := h
    refine ⟨_, (pss_cons (ps_set (i := 1) sc_law_powers.nd rfl (.inl rfl) (pe_lst pa_nil))
      (pss_cons (ps_for PassesOwn.never rfl (pi_list (pe_ix ix_tup (pv 0) pe_int (fun _ _ => rfl))) (pg_name (i := 2) sc_law_powers.nd rfl (.inl rfl))
        (pss_cons (ps_setLc (i := 3) (own := [("name", 6)]) rfl sc_law_powers.nd rfl rfl (sw_true rfl rfl rfl (by decide +kernel)) (pi_list (pe_ix ix_tup (pv 0) pe_int (fun _ _ => rfl))) (blkOk_by (N := ["model", "rows", "law", "row", "k", "j", "name"]) (sc := defScope s_law_powers) (by decide +kernel)) (fun _ _ _ _ _ => (pg_name (i := 6) sc_law_powers.nd rfl (.inl rfl))) (fun _ _ _ _ _ => pts_nil) (fun _ _ _ _ _ => pe_non))
        (pss_cons (ps_for PassesOwn.never rfl (pi_list (pe_call (ok_law_places_of T) (hr.mono (by decide)) (by rfl) T.law_places_of.g T.law_places_of.F.kp T.law_places_of.b .nil pass0 (pa_cons (pv 2) pa_nil))) (pg_tup rfl (pgs_cons (pg_name (i := 4) sc_law_powers.nd rfl (.inl rfl)) (pgs_cons (pg_name (i := 5) sc_law_powers.nd rfl (.inl rfl)) pgs_nil)))
          (pss_one (ps_if (PW.pt (pw_or (pt_cmpR op_isN (pe_ix ix_list (pv 3) (pv 5) (fun _ _ => rfl)) pe_non (nomark _)) (pw_or1 (pt_cmpR op_lt (pe_ix ix_list (pv 3) (pv 5) (fun _ _ => rfl)) (pv 4) (nomark _)))))
            (pss_one (ps_asg (pv 4) (pg_sub (pv 3) (pv 5) set_list)))
            pss_nil)))
        (pss_one (ps_expr (pe_bm PySem.F.plainAttrs_list PySem.F.slot_list_append PySem.F.type_list_append mt_append (pv 1) (pa_cons (pv 3) pa_nil)))))))
      (pss_one (ps_ret (pv 1))))), ?_⟩
    refine ⟨by show 0 ≤ sizeLine; decide, fun R nR => ?_⟩
    have s0 := same_upd nR (o := .lst [])
    refine ⟨_, rfl, a, _, _, _, rfl, rfl, Same.seqT s0 h1, rfl, r, rfl, ⟨xs, s0.seq h3⟩, ?_⟩
    refine for_it (walk_list (xs := xs)) (fun i σ G => Same H G ∧ ∃ (x2 x3 x4 x5 : Option V) (ys : List V), σ = [some (.ref a), some (.ref R), x2, x3, x4, x5, none] ∧ G R = some (.lst ys) ∧ A2 (RV H R G) ys ((m.ls.take i).map fun l => (prowN m.qs.length l.places).map vO))
      ⟨s0, none, none, none, none, [], rfl, upd_same, .nil⟩ (fun i σ G _ p => p.1.seq h3) (fun i x σ G G' hi p y => ?_) (fun σ G p => ?_)
    · obtain ⟨sm, x2, x3, x4, x5, ys, rfl, hRR, hA⟩ := p
      obtain ⟨rfl, hx⟩ := y
      obtain ⟨l, hl, rl⟩ := h4.get hx
      have vl := vm.ok l (mem_at hl)
      refine ⟨_, rfl, a, _, _, _, rfl, rfl, Same.seqT sm h1, rfl, qa, rfl, ⟨_, sm.seq h2⟩, fun D nD => ?_⟩
      refine lc_fm (walk_list (xs := m.qs.map V.str)) m.qs (fun _ => some ()) (fun _ v _ => v = V.non) (fun _ _ _ _ _ z => z) (by rw [List.length_map]) nD (fun H' s => s.seq (sm.seq h2)) (small' (by rw [List.length_map]; have := vm.qs.1; omega)) (fun i x H' Hx ys t ht sm hD y Qt Qf qt qf => ?_) (fun H' ns sN hD hN => ?_)
      · obtain ⟨rfl, hx⟩ := y
        exact ⟨rfl, qt _ _ () rfl (Same.refl _) rfl⟩
      · have e0 : ns = (prowN m.qs.length []).map vO := by
          have e := a2_eq (f := fun _ : Unit => V.non) hN
          rw [e, fm_id]
          unfold prowN
          rw [List.foldl_nil, List.map_replicate, List.map_map]
          show m.qs.map (fun _ => V.non) = _
          rw [List.map_const']
          rfl
        subst e0
        refine ⟨x, rfl, x, l, rfl, rl.same (sm.trans sN), Nat.le_trans vl.many (by decide), fun H5 c s2 nc ⟨zs, hc, hP⟩ => ?_⟩
        have hD0 := s2 _ _ hD
        have cD : c ≠ D := fun z => by rw [z, hD] at nc; cases nc
        have DR : D ≠ R := fun z => by rw [z, hRR] at nD; cases nD
        refine ⟨c, rfl, ⟨zs, .of hc⟩, ?_⟩
        refine for_it (walk_list (xs := zs)) (fun i σ G => ∃ x4 x5, σ = [some (.ref a), some (.ref R), some x, some (.ref D), x4, x5, none] ∧ SameX D H5 G ∧ G D = some (.lst ((prowN m.qs.length (l.places.take i)).map vO)))
          ⟨_, _, rfl, fun _ _ _ z => z, hD0⟩ (fun i σ G _ p => ?_) (fun i x σ G G' hi p y => ?_) (fun σ G p => ?_)
        · obtain ⟨_, _, _, sx, _⟩ := p
          exact seqL_x cD sx (.of hc)
        · obtain ⟨x3, x4, rfl, sx, hD⟩ := p
          obtain ⟨rfl, hx⟩ := y
          obtain ⟨pl, hp, b, rfl, hb⟩ := hP.get hx
          have hb' := seqT_x hD0 sx hb
          obtain ⟨_, hj⟩ := vl.place pl (mem_at hp)
          have len : (prowN m.qs.length (l.places.take i)).length = m.qs.length := by unfold prowN; rw [pfold_len, List.length_replicate]
          refine ⟨b, _, rfl, hb', rfl, _, _, rfl, _, _, rfl, rfl, ?_⟩
          have ta : prowN m.qs.length (l.places.take (i + 1)) = pstep (prowN m.qs.length (l.places.take i)) pl := fold_take _ _ hp
          refine ⟨.ref D, rfl, _, rfl, D, _, _, _, rfl, rfl, .of hD, atO (by omega), rfl, _, rfl, ?_⟩
          have put : better ((prowN m.qs.length (l.places.take i)).getD pl.2 none) pl.1 = true → ((prowN m.qs.length (l.places.take i)).map vO).set pl.2 (V.int (pl.1 : Nat)) = (prowN m.qs.length (l.places.take (i + 1))).map vO := fun hb => by
            rw [setO_map, ta]
            unfold pstep
            rw [if_pos hb]
          cases e : (prowN m.qs.length (l.places.take i)).getD pl.2 none with
          | none =>
            refine iteT ⟨_, rfl, _, rfl, _, rfl, D, _, _, pl.2, rfl, rfl, hD, ix_ok rfl (by rw [List.length_map, len]; exact hj), ?_⟩
            exact ⟨_, _, rfl, sx.trans SameX.put, by rw [upd_same, put (by rw [e]; rfl)]⟩
          | some k =>
            refine iteF ⟨.ref D, rfl, _, rfl, D, _, _, _, rfl, rfl, .of hD, (by rw [atO (by omega), e]; rfl), _, rfl, _, _, rfl, rfl, _, rfl, ite2 (fun h => ?_) (fun h => ?_)⟩
            · refine ⟨_, rfl, _, rfl, _, rfl, D, _, _, pl.2, rfl, rfl, hD, ix_ok rfl (by rw [List.length_map, len]; exact hj), ?_⟩
              exact ⟨_, _, rfl, sx.trans SameX.put, by rw [upd_same, put (by rw [e]; have := of_decide_eq_true h; exact decide_eq_true (by omega))]⟩
            · refine ⟨_, _, rfl, sx, ?_⟩
              rw [hD, ta]
              unfold pstep
              rw [e, if_neg (fun z => h (decide_eq_true (by have := of_decide_eq_true z; omega)))]
        · obtain ⟨x4, x5, rfl, sx, hD⟩ := p
          rw [List.take_of_length_le (by rw [hP.len]; exact Nat.le_refl _)] at hD
          have hR5 := s2 _ _ (sN _ _ hRR)
          have hRG := sx _ _ (Ne.symm DR) hR5
          have sG : SameX R G' G := fun a o h n => by
            have aD : a ≠ D := fun z => by rw [z, nD] at n; cases n
            exact sx a o aD (s2 a o (sN a o n))
          have sH : Same H G := fun a o h => by
            have hG := sm a o h
            have aD : a ≠ D := fun z => by rw [z, nD] at hG; cases hG
            exact sx a o aD (s2 a o (sN a o hG))
          refine ⟨.ref R, rfl, .inl ⟨rfl, _, .of hRG⟩, _, rfl, R, _, _, rfl, rfl, hRG, small' (by have := hA.len; rw [List.length_map, List.length_take] at this; have := vm.ls; omega), same_over sH nR, _, _, _, _, ys ++ [.ref D], rfl, upd_same, ?_⟩
          rw [take_snoc hl, List.map_append]
          exact A2.snoc ⟨D, rfl, sm.free nD, DR, by rw [upd_ne DR]; exact hD⟩ (hA.mono fun v b z => RV.mono _ _ v b (sG.trans SameX.put) z)
    · obtain ⟨sm, x2, x3, x4, x5, ys, rfl, hRR, hA⟩ := p
      rw [List.take_of_length_le (by rw [h4.len]; exact Nat.le_refl _)] at hA
      obtain ⟨rs, e, ha, hf⟩ := rows_of hA
      exact ⟨_, rfl, q G R sm nR ⟨rs, by rw [hRR, e], ha, hf⟩⟩
end
-- P13
/-- the last number is not 0 -/
def LastNZ (E : List Int) : Prop := ∀ x, E[E.length - 1]? = some x → x ≠ 0
def Zr (F E : List Int) : Prop := F = E ++ List.replicate (4 - E.length) 0 ∧ E.length ≤ 4 ∧ LastNZ E
theorem Zr.put {F E : List Int} {k : Nat} {n : Int} (h : Zr F E) (hk : k < 4) (hn : n ≠ 0) : Zr (F.set k n) (putAt E k n) := by
  obtain ⟨h1, h2, h3⟩ := h
  unfold putAt
  have hP : (E ++ List.replicate (k + 1 - E.length) (0 : Int)).length = max E.length (k + 1) := by rw [List.length_append, List.length_replicate]; omega
  have hF : F = (E ++ List.replicate (k + 1 - E.length) (0 : Int)) ++ List.replicate (4 - max E.length (k + 1)) 0 := by
    rw [h1, List.append_assoc, List.replicate_append_replicate]
    congr 2
    omega
  refine ⟨?_, by rw [List.length_set, hP]; omega, fun x hx => ?_⟩
  · rw [hF, List.set_append_left _ _ (by rw [hP]; omega), List.length_set, hP]
  · rw [List.length_set, hP, List.getElem?_set] at hx
    split at hx
    · split at hx
      · cases hx; exact hn
      · cases hx
    · have hz : k + 1 - E.length = 0 := by omega
      rw [hz, List.replicate_zero, List.append_nil, show max E.length (k + 1) = E.length by omega] at hx
      exact h3 x hx
def fe (q : Nat) (e : List Int) (t : Trm) : List Int := if t.j = q then e.set t.k (tnum t) else e
theorem fe_zr {many q : Nat} (hq : q < many) : ∀ (ts : List Trm) (F : List Int) (rows : List (List Int)), rows.length = many → (∀ t ∈ ts, t.k < 4 ∧ tnum t ≠ 0) → Zr F (rows.getD q []) → Zr (ts.foldl (fe q) F) ((ts.foldl estep rows).getD q [])
  | [], F, rows, _, _, h => h
  | t :: r, F, rows, hl, ht, h => by
    rw [List.foldl_cons, List.foldl_cons]
    refine fe_zr hq r _ _ (by unfold estep; rw [List.length_set]; exact hl) (fun u hu => ht u (List.mem_cons_of_mem _ hu)) ?_
    obtain ⟨hk, hn⟩ := ht t List.mem_cons_self
    unfold fe estep
    by_cases e : t.j = q
    · rw [if_pos e, e, List.getD_eq_getElem?_getD (l := rows.set q _), List.getElem?_set_self (by omega)]
      exact h.put hk hn
    · rw [if_neg e, List.getD_eq_getElem?_getD, List.getElem?_set_ne e, ← List.getD_eq_getElem?_getD]
      exact h
theorem fe_all {many q : Nat} (hq : q < many) {ts : List Trm} (ht : ∀ t ∈ ts, t.k < 4 ∧ tnum t ≠ 0) : Zr (ts.foldl (fe q) [0, 0, 0, 0]) ((erow many ts).getD q []) := by
  refine fe_zr hq ts _ _ (by rw [List.length_replicate]) ht ?_
  rw [show (List.replicate many ([] : List Int)).getD q [] = [] by rw [List.getD_eq_getElem?_getD, List.getElem?_replicate]; split <;> rfl]
  exact ⟨rfl, by decide, fun x hx => by simp at hx⟩
theorem fe_yes {q : Nat} {e : List Int} {t : Trm} (h : t.j = q) : fe q e t = e.set t.k (tnum t) := if_pos h
theorem fe_no {q : Nat} {e : List Int} {t : Trm} (h : ¬ t.j = q) : fe q e t = e := if_neg h
theorem fe_len (q : Nat) : ∀ (ts : List Trm) (e : List Int), (ts.foldl (fe q) e).length = e.length
  | [], _ => rfl
  | t :: r, e => by
    rw [List.foldl_cons, fe_len q r]
    unfold fe
    split
    · rw [List.length_set]
    · rfl
/-- lists of lists of flat things -/
def TabsD (H : Hp) (p : Addr) (tab : List (List (List V))) : Prop := ∃ rs : List Addr, H p = some (.lst (rs.map V.ref)) ∧ A2 (fun r row => ∃ es : List Addr, H r = some (.lst (es.map V.ref)) ∧ A2 (fun e x => H e = some (.lst x)) es row) rs tab
section
variable {P : Program} {w : World} {K : PySem.W.Frag} {mg : Str → Option Value} {base : Heap}
def sp_law_table (K : PySem.W.Frag) : Sp := fun vs H Q _ => ∃ (v : V) (m : Mdl), vs = [v] ∧ MD K H v m ∧ VM m ∧ ∀ H' p, Same H H' → TabsD H' p (fTab m) → Q (.ref p) H'
/-- a row that stands beside R -/
def RowD (R : Addr) (H : Hp) (v : V) (row : List (List V)) : Prop := ∃ r, v = .ref r ∧ r ≠ R ∧ ∃ es : List Addr, H r = some (.lst (es.map V.ref)) ∧ A2 (fun e x => e ≠ R ∧ H e = some (.lst x)) es row
theorem RowD.mono {R : Addr} (H H' : Hp) (v : V) (b : List (List V)) (s : SameX R H H') (h : RowD R H v b) : RowD R H' v b := by
  obtain ⟨r, e, n, es, h1, h2⟩ := h
  exact ⟨r, e, n, es, s _ _ n h1, h2.mono fun _ _ z => ⟨z.1, s _ _ z.1 z.2⟩⟩
theorem tabs_of {R : Addr} {H : Hp} : ∀ {ys : List V} {tab : List (List (List V))}, A2 (RowD R H) ys tab → ∃ rs : List Addr, ys = rs.map V.ref ∧ A2 (fun r row => ∃ es : List Addr, H r = some (.lst (es.map V.ref)) ∧ A2 (fun e x => H e = some (.lst x)) es row) rs tab
  | _, _, .nil => ⟨[], rfl, .nil⟩
  | _, _, .cons h t => by
    obtain ⟨r, e, n, es, h1, h2⟩ := h
    obtain ⟨rs, e2, a⟩ := tabs_of t
    exact ⟨r :: rs, by rw [e, e2]; rfl, .cons ⟨es, h1, h2.mono fun _ _ z => z.2⟩ a⟩
theorem range_row {many : Nat} {ts : List Trm} : (List.range many).map (fun q => ((erow many ts).getD q []).map V.int) = (erow many ts).map fun ns => ns.map V.int := by
  have hl : (erow many ts).length = many := by unfold erow; rw [efold_len, List.length_replicate]
  refine List.ext_getElem? fun j => ?_
  rw [List.getElem?_map, List.getElem?_map]
  rcases Nat.lt_or_ge j many with h | h
  · rw [List.getElem?_range h, List.getElem?_eq_getElem (by omega)]
    show some (List.map V.int ((erow many ts).getD j [])) = _
    rw [List.getD_eq_getElem?_getD, List.getElem?_eq_getElem (by omega)]; rfl
  · rw [List.getElem?_eq_none (by simpa using h), List.getElem?_eq_none (by omega)]; rfl
theorem ok_law_table (T : Txt K mg) : FnOk P w K mg base CX0 1 T.law_table.a T.law_table.fd ["model"] (sp_law_table K) := by
  refine T.law_table.F.ok sc_law_table (fun vs H Q E h => ?_) (fun cdv A outer s H vs Q E hr h => ?_)
  · obtain ⟨v, m, rfl, _⟩ := h
    rfl
  · obtain ⟨v, m, rfl, ⟨a, qa, r, xs, rfl, h1, h2, h3, h4⟩, vm, q⟩ := h
    refine ⟨_, (pss_cons (ps_set (i := 1) sc_law_table.nd rfl (.inl rfl) (pe_lst pa_nil))
      (pss_cons (ps_for PassesOwn.never rfl (pi_list (pe_ix ix_tup (pv 0) pe_int (fun _ _ => rfl))) (pg_name (i := 2) sc_law_table.nd rfl (.inl rfl))
        (pss_one (ps_if (pt_cmpR op_eq (pe_ix ix_tup (pv 2) pe_int (fun _ _ => rfl)) pe_str (nomark _))
          (pss_cons (ps_set (i := 3) sc_law_table.nd rfl (.inl rfl) (pe_lst pa_nil))
          (pss_cons (ps_for PassesOwn.never rfl (pi_range1 (by rfl) T.m_range (pa_cons (pe_callB call_len_seq (by rfl) T.m_len (by decide +kernel) (pa_cons (pe_ix ix_tup (pv 0) pe_int (fun _ _ => rfl)) pa_nil)) pa_nil)) (pg_name (i := 4) sc_law_table.nd rfl (.inl rfl))
            (pss_cons (ps_set (i := 5) sc_law_table.nd rfl (.inl rfl) (pe_lst (pa_cons pe_int (pa_cons pe_int (pa_cons pe_int (pa_cons pe_int pa_nil))))))
            (pss_cons (ps_for PassesOwn.never rfl (pi_list (pe_ix ix_tup (pv 2) pe_int (fun _ _ => rfl))) (pg_tup rfl (pgs_cons (pg_name (i := 6) sc_law_table.nd rfl (.inl rfl)) (pgs_cons (pg_name (i := 7) sc_law_table.nd rfl (.inl rfl)) (pgs_cons (pg_name (i := 8) sc_law_table.nd rfl (.inl rfl)) pgs_nil))))
              (pss_one (ps_if (pt_cmpR op_eq (pv 8) (pv 4) (nomark _))
                (pss_one (ps_asg (pv 6) (pg_sub (pv 5) (pv 7) set_list)))
                pss_nil)))
            (pss_cons (ps_while PassesOwn.never (PW.pt (pw_and (pt_cmpR op_gt (pe_callB call_len_seq (by rfl) T.m_len (by decide +kernel) (pa_cons (pv 5) pa_nil)) pe_int (nomark _)) (pw_and1 (pt_cmpR op_eq (pe_ix ix_list (pv 5) (pe_un un_neg pe_int) (fun _ _ => rfl)) pe_int (nomark _)))))
              (pss_one (ps_expr (pe_bm0 PySem.F.plainAttrs_list PySem.F.slot_list_pop PySem.F.type_list_pop mt_pop (pv 5)))))
            (pss_one (ps_expr (pe_bm PySem.F.plainAttrs_list PySem.F.slot_list_append PySem.F.type_list_append mt_append (pv 3) (pa_cons (pv 5) pa_nil))))))))
          (pss_one (ps_expr (pe_bm PySem.F.plainAttrs_list PySem.F.slot_list_append PySem.F.type_list_append mt_append (pv 1) (pa_cons (pv 3) pa_nil))))))
          pss_nil)))
      (pss_one (ps_ret (pv 1))))), ?_⟩
    refine ⟨by show 0 ≤ sizeLine; decide, fun R nR => ?_⟩
    have s0 := same_upd nR (o := .lst [])
    refine ⟨_, rfl, a, _, _, _, rfl, rfl, Same.seqT s0 h1, rfl, r, rfl, ⟨xs, s0.seq h3⟩, ?_⟩
    refine for_it (walk_list (xs := xs)) (fun i σ G => Same H G ∧ ∃ (x2 x3 x4 x5 x6 x7 x8 : Option V) (ys : List V), σ = [some (.ref a), some (.ref R), x2, x3, x4, x5, x6, x7, x8] ∧ G R = some (.lst ys) ∧ ys.length ≤ i ∧ A2 (RowD R G) ys ((m.ls.take i).filterMap (fTab1 m.qs.length)))
      ⟨s0, none, none, none, none, none, none, none, [], rfl, upd_same, Nat.le_refl _, .nil⟩ (fun i σ G _ p => p.1.seq h3) (fun i x σ G G' hi p y => ?_) (fun σ G p => ?_)
    · obtain ⟨sm, x2, x3, x4, x5, x6, x7, x8, ys, rfl, hRR, hyl, hA⟩ := p
      obtain ⟨rfl, hx⟩ := y
      obtain ⟨l, hl, rl⟩ := h4.get hx
      have vl := vm.ok l (mem_at hl)
      have ft : (m.ls.take (i + 1)).filterMap (fTab1 m.qs.length) = (m.ls.take i).filterMap (fTab1 m.qs.length) ++ [l].filterMap (fTab1 m.qs.length) := by rw [take_snoc hl, List.filterMap_append]
      obtain ⟨b, p, rfl, ⟨zs, hz, hT⟩, ⟨ex, hb⟩ | ⟨ex, hb⟩⟩ := rl
      · refine ⟨_, rfl, b, _, _, _, rfl, rfl, Same.seqT sm hb, rfl, rfl, _, rfl, iteT ?_⟩
        refine ⟨by show 0 ≤ sizeLine; decide, fun W nW => ?_⟩
        have WR : W ≠ R := fun z => by rw [z, hRR] at nW; cases nW
        have sW := same_upd nW (o := .lst [])
        refine ⟨_, rfl, a, _, _, _, rfl, rfl, Same.seqT (sm.trans sW) h1, rfl, qa, _, rfl, .inl ((sm.trans sW).seq h2), ((m.qs.map V.str).length : Nat), rfl, by rw [List.length_map]; have := vm.qs.1; omega, by rw [List.length_map]; have := vm.qs.1; omega, ?_⟩
        rw [List.length_map, Int.toNat_natCast]
        have tn : ∀ t ∈ l.ts, t.k < 4 ∧ tnum t ≠ 0 := fun t ht => by
          obtain ⟨n, e, n0, _⟩ := vl.num ex t ht
          exact ⟨(vl.ts t ht).1, by unfold tnum; rw [e]; exact n0⟩
        refine for_it (walk_range (lo := 0) (n := m.qs.length)) (fun q σ G2 => Same G' G2 ∧ ∃ (x4 x5 x6 x7 x8 : Option V) (es : List Addr), σ = [some (.ref a), some (.ref R), some (.ref b), some (.ref W), x4, x5, x6, x7, x8] ∧ G2 W = some (.lst (es.map V.ref)) ∧ es.length = q ∧ A2 (fun e x => e ≠ W ∧ G' e = none ∧ G2 e = some (.lst x)) es ((List.range q).map fun q => ((erow m.qs.length l.ts).getD q []).map V.int))
          ⟨sW, _, _, _, _, _, [], rfl, upd_same, rfl, .nil⟩ (fun _ _ _ _ _ => trivial) (fun qi x σ G2 G3 hq p y => ?_) (fun σ G2 p => ?_)
        · obtain ⟨s2, y4, y5, y6, y7, y8, es, rfl, hW, hen, hE⟩ := p
          obtain ⟨rfl, rfl⟩ := y
          refine ⟨by show 4 ≤ sizeLine; decide, fun e ne => ?_⟩
          have eW : e ≠ W := fun z => by rw [z, hW] at ne; cases ne
          have s3 := same_upd ne (o := .lst [V.int 0, V.int 0, V.int 0, V.int 0])
          have sAll := sm.trans (s2.trans s3)
          refine ⟨_, rfl, b, _, _, _, rfl, rfl, Same.seqT sAll hb, rfl, p, rfl, ⟨zs, sAll.seq hz⟩, ?_⟩
          refine for_it (walk_list (xs := zs)) (fun i σ G4 => Same G3 G4 ∧ ∃ (x6 x7 x8 : Option V), σ = [some (.ref a), some (.ref R), some (.ref b), some (.ref W), some (.int (0 + (qi : Int))), some (.ref e), x6, x7, x8] ∧ IL G4 e ((l.ts.take i).foldl (fe qi) [0, 0, 0, 0]))
            ⟨s3, _, _, _, rfl, upd_same⟩ (fun i σ G4 _ p => (sm.trans (s2.trans p.1)).seq hz) (fun i x σ G4 G5 hi p y => ?_) (fun σ G4 p => ?_)
          · obtain ⟨s4, w6, w7, w8, rfl, hI⟩ := p
            obtain ⟨rfl, hx⟩ := y
            obtain ⟨t, ht, c, rfl, hc⟩ := hT.get hx
            obtain ⟨n, en, n0, _⟩ := vl.num ex t (mem_at ht)
            have etn : tnum t = n := by unfold tnum; rw [en]
            rw [en] at hc
            have hc5 := Same.seqT (sm.trans (s2.trans s4)) hc
            have ta : (l.ts.take (i + 1)).foldl (fe qi) [0, 0, 0, 0] = fe qi ((l.ts.take i).foldl (fe qi) [0, 0, 0, 0]) t := fold_take _ _ ht
            have lF := fe_len qi (l.ts.take i) [0, 0, 0, 0]
            refine ⟨c, _, rfl, hc5, rfl, _, _, rfl, _, _, rfl, _, _, rfl, rfl, _, rfl, _, rfl, rfl, _, rfl, ?_⟩
            rw [ta]
            refine ite2 (fun h => ?_) (fun h => ?_)
            · have ej : t.j = qi := by have := V.int.inj (of_decide_eq_true h); omega
              refine ⟨_, rfl, .ref e, rfl, _, rfl, e, _, _, t.k, rfl, rfl, hI, ix_ok rfl (by rw [List.length_map, lF]; exact (vl.ts t (mem_at ht)).1), ?_⟩
              refine ⟨same_over s4 ne, _, _, _, rfl, ?_⟩
              rw [fe_yes ej, etn]
              show upd _ e _ e = _
              rw [upd_same]
              show some (HO.lst ((List.map V.int _).set t.k (V.int n))) = _
              rw [← List.map_set]
            · have ej : ¬ t.j = qi := fun z => h (decide_eq_true (by rw [z, Int.zero_add]))
              rw [fe_no ej]
              exact ⟨s4, _, _, _, rfl, hI⟩
          · obtain ⟨s4, w6, w7, w8, rfl, hI⟩ := p
            rw [List.take_of_length_le (by rw [hT.len]; exact Nat.le_refl _)] at hI
            obtain ⟨z1, z2, z3⟩ := fe_all hq tn
            rw [z1] at hI
            generalize hEE : (erow m.qs.length l.ts).getD qi [] = EE at z1 z2 z3 hI
            refine while_by (fun σ G5 => Same G3 G5 ∧ σ = [some (.ref a), some (.ref R), some (.ref b), some (.ref W), some (.int (0 + (qi : Int))), some (.ref e), w6, w7, w8] ∧ ∃ z, z ≤ 4 - EE.length ∧ IL G5 e (EE ++ List.replicate z 0))
              (fun _ G5 => match G5 e with | some (.lst xs) => xs.length | _ => 0) ⟨s4, rfl, _, Nat.le_refl _, hI⟩ (fun σ G5 p => ?_) (fun σ G5 Q1 Q2 hQ h => ?_)
            · obtain ⟨s5, rfl, z, hz4, hI⟩ := p
              have hI' : G5 e = some (.lst ((EE ++ List.replicate z 0).map V.int)) := hI
              have fin : z = 0 → (Same G' (upd G5 W (.lst (es.map V.ref ++ [V.ref e]))) ∧ ∃ (x4 x5 x6 x7 x8 : Option V) (es' : List Addr), [some (V.ref a), some (V.ref R), some (V.ref b), some (V.ref W), some (V.int (0 + (qi : Int))), some (V.ref e), w6, w7, w8] = [some (V.ref a), some (V.ref R), some (V.ref b), some (V.ref W), x4, x5, x6, x7, x8] ∧
                  upd G5 W (.lst (es.map V.ref ++ [V.ref e])) W = some (.lst (es'.map V.ref)) ∧ es'.length = qi + 1 ∧ A2 (fun u x => u ≠ W ∧ G' u = none ∧ upd G5 W (.lst (es.map V.ref ++ [V.ref e])) u = some (.lst x)) es' ((List.range (qi + 1)).map fun q => ((erow m.qs.length l.ts).getD q []).map V.int)) := fun hz0 => by
                subst hz0
                rw [List.replicate_zero, List.append_nil] at hI'
                refine ⟨same_over (s2.trans s5) nW, _, _, _, _, _, es ++ [e], rfl, by rw [upd_same, List.map_append]; rfl, by simp [hen], ?_⟩
                rw [List.range_succ, List.map_append]
                refine A2.snoc ⟨eW, s2.free ne, by rw [upd_ne eW, hI']; show _ = some (HO.lst (List.map V.int ((erow m.qs.length l.ts).getD qi []))); rw [hEE]⟩ (hE.mono fun u x z => ⟨z.1, z.2.1, ?_⟩)
                rw [upd_ne z.1]
                exact s5 _ _ z.2.2
              have hW5 := s5 _ _ hW
              have q30 := vm.qs.1
              refine ⟨.ref e, rfl, e, _, rfl, .inl (.of hI'), _, _, rfl, rfl, _, rfl, ?_⟩
              rw [List.length_map, List.length_append, List.length_replicate]
              cases z with
              | zero =>
                rw [List.replicate_zero, List.append_nil] at hI'
                rcases List.eq_nil_or_concat EE with hE0 | ⟨E0, x, hE0⟩
                · rw [hE0]
                  refine iteF (iteF ⟨.ref W, rfl, .inl ⟨rfl, _, .of hW5⟩, _, rfl, W, _, _, rfl, rfl, hW5, small' (by rw [List.length_map]; omega), ?_⟩)
                  exact fin rfl
                · rw [List.concat_eq_append] at hE0
                  have x0 : x ≠ 0 := z3 x (by rw [hE0]; simp)
                  have hat : atI (EE.map V.int) (-1) = some (V.int x) := by rw [hE0, List.map_append]; exact atI_last _ _
                  rw [show decide ((0 : Int) < ((EE.length + 0 : Nat) : Int)) = true from decide_eq_true (by rw [hE0, List.length_append]; show (0 : Int) < ((E0.length + 1 + 0 : Nat) : Int); omega)]
                  refine iteT ⟨.ref e, rfl, _, rfl, e, _, _, _, rfl, rfl, .of hI', hat, rfl, _, rfl, ?_⟩
                  rw [show decide (V.int x = V.int 0) = false from decide_eq_false (fun z => x0 (V.int.inj z))]
                  refine iteF ⟨.ref W, rfl, .inl ⟨rfl, _, .of hW5⟩, _, rfl, W, _, _, rfl, rfl, hW5, small' (by rw [List.length_map]; omega), ?_⟩
                  exact fin rfl
              | succ z =>
                have hsp : (EE ++ List.replicate (z + 1) (0 : Int)) = (EE ++ List.replicate z 0) ++ [0] := by rw [List.replicate_succ', List.append_assoc]
                rw [hsp, List.map_append] at hI'
                have hat : atI ((EE ++ List.replicate z 0).map V.int ++ [V.int 0]) (-1) = some (V.int 0) := atI_last _ _
                rw [show decide ((0 : Int) < ((EE.length + (z + 1) : Nat) : Int)) = true from decide_eq_true (by omega)]
                refine iteT ⟨.ref e, rfl, _, rfl, e, _, _, _, rfl, rfl, .of hI', hat, rfl, _, rfl, iteT ?_⟩
                refine ⟨.ref e, rfl, .inl ⟨rfl, _, .of hI'⟩, e, _, V.int 0, rfl, rfl, hI', by simp, ⟨same_over s5 ne, rfl, z, by omega, ?_⟩, ?_⟩
                · show upd G5 e _ e = _
                  rw [upd_same]
                  show some (HO.lst (((EE ++ List.replicate z 0).map V.int ++ [V.int 0]).dropLast)) = _
                  rw [List.dropLast_concat]
                · rw [upd_same, hI']
                  show (((EE ++ List.replicate z 0).map V.int ++ [V.int 0]).dropLast).length < ((EE ++ List.replicate z 0).map V.int ++ [V.int 0]).length
                  rw [List.dropLast_concat, List.length_append]
                  exact Nat.lt_succ_self _
            · obtain ⟨v, e1, p, ys, e2, hs, i, j, e3, e4, k, e5, h⟩ := h
              refine ⟨v, e1, p, ys, e2, hs, i, j, e3, e4, k, e5, ?_⟩
              cases k with
              | true =>
                obtain ⟨b, e5, i', e6, p, xs, ii, vv, e7, e8, e9, e10, e11, k', e12, h⟩ := h
                exact ⟨b, e5, i', e6, p, xs, ii, vv, e7, e8, e9, e10, e11, k', e12, hQ _ _ h⟩
              | false => exact hQ _ _ h
        · obtain ⟨s2, y4, y5, y6, y7, y8, es, rfl, hW, hen, hE⟩ := p
          have hR2 := s2 _ _ hRR
          refine ⟨.ref R, rfl, .inl ⟨rfl, _, .of hR2⟩, _, rfl, R, _, _, rfl, rfl, hR2, small' (by have := h4.len; have := vm.ls; omega), same_over (sm.trans s2) nR, _, _, _, _, _, _, _, ys ++ [.ref W], rfl, upd_same, by rw [List.length_append]; exact Nat.succ_le_succ hyl, ?_⟩
          rw [ft, show [l].filterMap (fTab1 m.qs.length) = [(erow m.qs.length l.ts).map fun ns => ns.map V.int] by simp [fTab1, ex], ← range_row]
          refine A2.snoc ⟨W, rfl, WR, es, by rw [upd_ne WR]; exact hW, hE.mono fun u x z => ?_⟩ (hA.mono fun v b z => RowD.mono _ _ v b ((sx s2).trans SameX.put) z)
          have uR : u ≠ R := fun y => by have := z.2.1; rw [y, hRR] at this; cases this
          exact ⟨uR, by rw [upd_ne uR]; exact z.2.2⟩
      · refine ⟨_, rfl, b, _, _, _, rfl, rfl, Same.seqT sm hb, rfl, rfl, _, rfl, iteF ?_⟩
        refine ⟨sm, _, _, _, _, _, _, _, ys, rfl, hRR, by omega, ?_⟩
        rw [ft, show [l].filterMap (fTab1 m.qs.length) = [] by simp [fTab1, ex], List.append_nil]
        exact hA
    · obtain ⟨sm, x2, x3, x4, x5, x6, x7, x8, ys, rfl, hRR, _, hA⟩ := p
      rw [List.take_of_length_le (by rw [h4.len]; exact Nat.le_refl _)] at hA
      obtain ⟨rs, e, ha⟩ := tabs_of hA
      exact ⟨_, rfl, q G R sm ⟨rs, by rw [hRR, e], ha⟩⟩
end
-- P14
section
variable {P : Program} {w : World} {K : PySem.W.Frag} {mg : Str → Option Value} {base : Heap}
theorem in_any {j : Nat} : ∀ ps : List (Nat × Nat), inV (V.int (0 + (j : Int))) (ps.map fun p => V.int (p.2 : Nat)) = ps.any fun p => p.2 == j
  | [] => rfl
  | p :: r => by
    show (eqV (V.int (p.2 : Nat)) (V.int (0 + (j : Int))) || inV (V.int (0 + (j : Int))) (r.map fun p => V.int (p.2 : Nat))) = _
    rw [in_any r, List.any_cons, Int.zero_add]
    congr 1
    show (((p.2 : Nat) : Int) == ((j : Nat) : Int)) = _
    by_cases h : p.2 = j
    · rw [h, beq_self_eq_true, beq_self_eq_true]
    · rw [beq_false_of_ne h, beq_false_of_ne (fun z => h (by omega))]
theorem flat_ints : ∀ ps : List (Nat × Nat), (ps.map fun p => V.int (p.2 : Nat)).all flatV = true
  | [] => rfl
  | q :: r => by rw [List.map_cons, List.all_cons, flat_ints r]; rfl
def mt (ps : List (Nat × Nat)) (i : Nat) : List Int := ((List.range i).filter fun j => ps.any fun p => p.2 == j).map Int.ofNat
theorem ok_law_meetings (T : Txt K mg) : FnOk P w K mg base CX0 2 T.law_meetings.a T.law_meetings.fd ["model"] (spRows K fMeet) := by
  refine T.law_meetings.F.ok sc_law_meetings (fun vs H Q E h => ?_) (fun cdv A outer s H vs Q E hr h => ?_)
  · obtain ⟨v, m, rfl, _⟩ := h
    rfl
  · obtain ⟨v, m, rfl, ⟨a, qa, r, xs, rfl, h1, h2, h3, h4⟩, vm, q⟩ := h
    refine ⟨_, (pss_cons (ps_set (i := 1) sc_law_meetings.nd rfl (.inl rfl) (pe_lst pa_nil))
      (pss_cons (ps_for PassesOwn.never rfl (pi_list (pe_ix ix_tup (pv 0) pe_int (fun _ _ => rfl))) (pg_name (i := 2) sc_law_meetings.nd rfl (.inr rfl))
        (pss_one (ps_if (pt_cmpR op_eq (pe_ix ix_tup (pv 2) pe_int (fun _ _ => rfl)) pe_str (nomark _))
          (pss_one (ps_expr (pe_bm PySem.F.plainAttrs_list PySem.F.slot_list_append PySem.F.type_list_append mt_append (pv 1) (pa_cons (pe_lc (own := [("j", 3)]) rfl sc_law_meetings.nd (pi_range1 (by rfl) T.m_range (pa_cons (pe_callB call_len_seq (by rfl) T.m_len (by decide +kernel) (pa_cons (pe_ix ix_tup (pv 0) pe_int (fun _ _ => rfl)) pa_nil)) pa_nil)) (blkOk_by (N := ["model", "rows", "law", "j", "place"]) (sc := defScope s_law_meetings) (by decide +kernel)) (fun _ _ _ _ _ => (pg_name (i := 3) sc_law_meetings.nd rfl (.inl rfl))) (fun _ _ _ _ _ => (pts_one (pt_cmpR (r := rIn K false) op_in_seq (pv 3) (pe_lc (wi := iList K _) (own := [("place", 4)]) rfl sc_law_meetings.nd (pi_list (pe_call (ok_law_places_of T) (hr.mono (by decide)) (by rfl) T.law_places_of.g T.law_places_of.F.kp T.law_places_of.b .nil pass0 (pa_cons (pv 2) pa_nil))) (blkOk_by (N := ["model", "rows", "law", "j", "place"]) (sc := { kind := .function, names := [(".0", .local), ("j", .local), ("_law_places_of", .globalImplicit), ("law", .cell)], isGenerator := false, isCoroutine := false, more := [] }) (by decide +kernel)) (fun _ _ _ _ _ => (pg_name (i := 4) sc_law_meetings.nd rfl (.inl rfl))) (fun _ _ _ _ _ => pts_nil) (fun _ _ _ _ _ => (pe_ix (r := rIxT K) ix_tup (pv 4) pe_int (fun _ _ => rfl)))) rfl))) (fun _ _ _ _ _ => (pv 3))) pa_nil))))
          pss_nil)))
      (pss_one (ps_ret (pv 1))))), ?_⟩
    refine ⟨by show 0 ≤ sizeLine; decide, fun R nR => ?_⟩
    have s0 := same_upd nR (o := .lst [])
    have q30 := vm.qs.1
    refine ⟨_, rfl, a, _, _, _, rfl, rfl, Same.seqT s0 h1, rfl, r, rfl, ⟨xs, s0.seq h3⟩, ?_⟩
    refine for_it (walk_list (xs := xs)) (fun i σ G => Same H G ∧ ∃ (x2 : Option V) (ys : List V), σ = [some (.ref a), some (.ref R), x2, none, none] ∧ G R = some (.lst ys) ∧ ys.length ≤ i ∧ A2 (RV H R G) ys ((m.ls.take i).filterMap (fMeet1 m.qs.length)))
      ⟨s0, none, [], rfl, upd_same, Nat.le_refl _, .nil⟩ (fun i σ G _ p => p.1.seq h3) (fun i x σ G G' hi p y => ?_) (fun σ G p => ?_)
    · obtain ⟨sm, x2, ys, rfl, hRR, hyl, hA⟩ := p
      obtain ⟨rfl, hx⟩ := y
      obtain ⟨l, hl, rl⟩ := h4.get hx
      have vl := vm.ok l (mem_at hl)
      have ft : (m.ls.take (i + 1)).filterMap (fMeet1 m.qs.length) = (m.ls.take i).filterMap (fMeet1 m.qs.length) ++ [l].filterMap (fMeet1 m.qs.length) := by rw [take_snoc hl, List.filterMap_append]
      have rl' := rl
      obtain ⟨b, p, rfl, ⟨zs, hz, hT⟩, ⟨ex, hb⟩ | ⟨ex, hb⟩⟩ := rl
      · refine ⟨_, rfl, b, _, _, _, rfl, rfl, Same.seqT sm hb, rfl, rfl, _, rfl, iteF ?_⟩
        refine ⟨sm, _, ys, rfl, hRR, by omega, ?_⟩
        rw [ft, show [l].filterMap (fMeet1 m.qs.length) = [] by simp [fMeet1, ex], List.append_nil]
        exact hA
      · refine ⟨_, rfl, b, _, _, _, rfl, rfl, Same.seqT sm hb, rfl, rfl, _, rfl, iteT ?_⟩
        refine ⟨.ref R, rfl, .inl ⟨rfl, _, .of hRR⟩, _, rfl, a, _, _, _, rfl, rfl, Same.seqT sm h1, rfl, qa, _, rfl, .inl (sm.seq h2), ((m.qs.map V.str).length : Nat), rfl, by rw [List.length_map]; omega, by rw [List.length_map]; omega, fun D nD => ?_⟩
        rw [List.length_map, Int.toNat_natCast]
        have DR : D ≠ R := fun z => by rw [z, hRR] at nD; cases nD
        refine lc_inv (walk_range (lo := 0) (n := m.qs.length)) (fun i G ys => ys = (mt l.places i).map V.int) nD (fun _ _ => trivial) (small' (by omega)) rfl (fun j x G Hx ks hi s2 hD hR y Qt Qf qt qf => ?_) (fun G ks s2 hD hR => ?_)
        · obtain ⟨rfl, rfl⟩ := y
          refine ⟨rfl, _, rfl, .ref b, rfl, .ref b, l, rfl, rl'.same (sm.trans s2), Nat.le_trans vl.many (by decide), fun H4 c s4 nc ⟨ws, hc, hP⟩ => ?_⟩
          refine ⟨c, rfl, ⟨ws, .of hc⟩, fun D2 nD2 => ?_⟩
          refine lc_fm (walk_list (xs := ws)) l.places (fun p => some p) (fun _ v p => v = V.int (p.2 : Nat)) (fun _ _ _ _ _ z => z) hP.len.symm nD2 (fun H' s => s.seq (.of hc)) (small' (by have := hP.len; have := vl.placeN; omega)) (fun i x H' Hx ys p hp s5 hD2 y Qt Qf qt qf => ?_) (fun H' ys s5 hD2 hR2 => ?_)
          · obtain ⟨rfl, hx⟩ := y
            obtain ⟨p', hp', c2, rfl, q2⟩ := hP.get hx
            obtain rfl := Option.some.inj (hp.symm.trans hp')
            exact ⟨rfl, _, rfl, c2, _, _, _, rfl, rfl, Same.seqT s5 q2, rfl, qt _ _ _ rfl (Same.refl _) rfl⟩
          · have e := a2_eq (f := fun p : Nat × Nat => V.int (p.2 : Nat)) hR2
            rw [show l.places.filterMap (fun p => some p) = l.places from List.filterMap_some] at e
            subst e
            refine ⟨D2, _, rfl, .inl (.of hD2), rfl, flat_ints _, _, rfl, ?_⟩
            have e1 : (if false = true then !inV (V.int (0 + (j : Int))) (l.places.map fun p => V.int (p.2 : Nat)) else inV (V.int (0 + (j : Int))) (l.places.map fun p => V.int (p.2 : Nat))) = l.places.any fun p => p.2 == j := in_any _
            have sA := s4.trans s5
            cases hb2 : (l.places.any fun p => p.2 == j) with
            | true =>
              rw [hb2] at e1
              show if _ = true then _ else _
              rw [if_pos e1]
              refine ⟨_, rfl, qt _ _ sA ?_⟩
              rw [hR]
              unfold mt
              rw [List.range_succ, List.filter_append, List.map_append, List.map_append, List.filter_cons_of_pos (by simpa using hb2)]
              show _ ++ [V.int (0 + (j : Int))] = _
              rw [Int.zero_add]
              rfl
            | false =>
              rw [hb2] at e1
              show if _ = true then _ else _
              rw [if_neg (by rw [e1]; decide)]
              refine qf _ sA ?_
              rw [hR]
              unfold mt
              rw [List.range_succ, List.filter_append, List.map_append, List.filter_cons_of_neg (by rw [hb2]; decide)]
              simp
        · have hR3 := s2 _ _ hRR
          refine ⟨R, _, _, rfl, rfl, hR3, small' (by have := h4.len; have := vm.ls; omega), same_over (sm.trans s2) nR, _, ys ++ [.ref D], rfl, upd_same, by rw [List.length_append]; exact Nat.succ_le_succ hyl, ?_⟩
          rw [ft, show [l].filterMap (fMeet1 m.qs.length) = [(meet m.qs.length l.places).map V.int] by simp [fMeet1, ex]]
          exact A2.snoc ⟨D, rfl, sm.free nD, DR, by rw [upd_ne DR, hD, hR]; rfl⟩ (hA.mono fun v b z => RV.mono _ _ v b ((sx s2).trans SameX.put) z)
    · obtain ⟨sm, x2, ys, rfl, hRR, _, hA⟩ := p
      rw [List.take_of_length_le (by rw [h4.len]; exact Nat.le_refl _)] at hA
      obtain ⟨rs, e, ha, hf⟩ := rows_of hA
      exact ⟨_, rfl, q G R sm nR ⟨rs, by rw [hRR, e], ha, hf⟩⟩
end
-- P15
/-- what is told stands at p: six lists -/
structure Told (H G : Hp) (p : Addr) (m : Mdl) (tops rs0 rs1 rs2 : List Addr) : Prop where
  len : tops.length = 6
  at_ : G p = some (.lst (tops.map V.ref))
  t0 : G (tops.getD 0 0) = some (.lst (rs0.map V.ref))
  t1 : G (tops.getD 1 0) = some (.lst (rs1.map V.ref))
  t2 : G (tops.getD 2 0) = some (.lst (rs2.map V.ref))
  t3 : G (tops.getD 3 0) = some (.lst (fIdx true m))
  t4 : G (tops.getD 4 0) = some (.lst (fIdx false m))
  t5 : G (tops.getD 5 0) = some (.lst (fSizes m))
  a0 : A2 (fun r row => G r = some (.lst row)) rs0 (fPow m)
  a1 : A2 (fun r row => ∃ es : List Addr, G r = some (.lst (es.map V.ref)) ∧ A2 (fun e x => G e = some (.lst x)) es row ∧ ∀ e ∈ es, H e = none ∧ e ∉ p :: tops ∧ e ∉ rs1) rs1 (fTab m)
  a2 : A2 (fun r row => G r = some (.lst row)) rs2 (fMeet m)
  new : ∀ x ∈ p :: tops, H x = none
  pn : p ∉ tops
  rn : ∀ r, r ∈ rs0 ∨ r ∈ rs1 ∨ r ∈ rs2 → H r = none ∧ r ∉ p :: tops
  inj : Inj rs1
  r10 : ∀ r ∈ rs1, r ∉ rs0
  r12 : ∀ r ∈ rs2, r ∉ rs1
section
variable {P : Program} {w : World} {K : PySem.W.Frag} {mg : Str → Option Value} {base : Heap}
theorem tr {H G : Hp} (s : Same H G) {a b : Addr} {x : HO} (h : H a = some x) (n : G b = none) : a ≠ b := fun z => by
  have := s _ _ h
  rw [z, n] at this
  cases this
def sp_law_told (K : PySem.W.Frag) : Sp := fun vs H Q _ => ∃ (v : V) (m : Mdl), vs = [v] ∧ MD K H v m ∧ VM m ∧ ∀ H' p tops rs0 rs1 rs2, Same H H' → Told H H' p m tops rs0 rs1 rs2 → Q (.ref p) H'
theorem ok_law_told (T : Txt K mg) : FnOk P w K mg base CX0 6 T.law_told.a T.law_told.fd ["model"] (sp_law_told K) := by
  refine T.law_told.F.ok sc_law_told (fun vs H Q E h => ?_) (fun cdv A outer s H vs Q E hr h => ?_)
  · obtain ⟨v, m, rfl, _⟩ := h
    rfl
  · obtain ⟨v, m, rfl, hm, vm, q⟩ := h
    refine ⟨_, (pss_one (ps_ret (pe_lst (pa_cons (pe_call (ok_powers T) (hr.mono (by decide)) (by rfl) T.powers.g T.powers.F.kp T.powers.b .nil pass0 (pa_cons (pv 0) pa_nil)) (pa_cons (pe_call (ok_exact_table T) (hr.mono (by decide)) (by rfl) T.exact_table.g T.exact_table.F.kp T.exact_table.b .nil pass0 (pa_cons (pv 0) pa_nil)) (pa_cons (pe_call (ok_meetings T) (hr.mono (by decide)) (by rfl) T.meetings.g T.meetings.F.kp T.meetings.b .nil pass0 (pa_cons (pv 0) pa_nil)) (pa_cons (pe_call (ok_exact_laws T) (hr.mono (by decide)) (by rfl) T.exact_laws.g T.exact_laws.F.kp T.exact_laws.b .nil pass0 (pa_cons (pv 0) pa_nil)) (pa_cons (pe_call (ok_sized_laws T) (hr.mono (by decide)) (by rfl) T.sized_laws.g T.sized_laws.F.kp T.sized_laws.b .nil pass0 (pa_cons (pv 0) pa_nil)) (pa_cons (pe_call (ok_sizes_of T) (hr.mono (by decide)) (by rfl) T.sizes_of.g T.sizes_of.F.kp T.sizes_of.b .nil pass0 (pa_cons (pv 0) pa_nil)) pa_nil))))))))), ?_⟩
    refine ⟨v, rfl, v, m, rfl, hm, vm, fun H1 e0 s1 n0 ⟨rs0, b0, c0, d0⟩ => ?_⟩
    refine ⟨v, rfl, v, m, rfl, hm.same s1, vm, fun H2 e1 s2 n1 ⟨rs1, b1, c1, inj, d1⟩ => ?_⟩
    have s12 := s1.trans s2
    refine ⟨v, rfl, v, m, rfl, hm.same s12, vm, fun H3 e2 s3 n2 ⟨rs2, b2, c2, d2⟩ => ?_⟩
    have s13 := s12.trans s3
    refine ⟨v, rfl, v, m, rfl, hm.same s13, vm, fun H4 e3 s4 n3 b3 => ?_⟩
    have s14 := s13.trans s4
    refine ⟨v, rfl, v, m, rfl, hm.same s14, vm, fun H5 e4 s5 n4 b4 => ?_⟩
    have s15 := s14.trans s5
    refine ⟨v, rfl, v, m, rfl, hm.same s15, vm, fun H6 e5 s6 n5 b5 => ?_⟩
    have s16 := s15.trans s6
    refine ⟨by show 6 ≤ sizeLine; decide, fun p np => ?_⟩
    have s7 := same_upd np (o := .lst [V.ref e0, V.ref e1, V.ref e2, V.ref e3, V.ref e4, V.ref e5])
    have u57 := s6.trans s7
    have u47 := s5.trans u57
    have u37 := s4.trans u47
    have u27 := s3.trans u37
    have u17 := s2.trans u27
    have q45 := s5
    have q34 := s4
    have q35 := s4.trans s5
    have q36 := q35.trans s6
    have q46 := s5.trans s6
    have q23 := s3
    have q24 := s3.trans s4
    have q25 := q24.trans s5
    have q26 := q25.trans s6
    have q13 := s2.trans s3
    have q14 := q13.trans s4
    have q15 := q14.trans s5
    have q16 := q15.trans s6
    have f1 : ∀ (es : List Addr) (row : List (List V)), A2 (fun e x => H2 e = some (.lst x)) es row → (∀ e ∈ es, H1 e = none ∧ e ≠ e1 ∧ e ∉ rs1) → ∀ e ∈ es, H e = none ∧ e ∉ [p, e0, e1, e2, e3, e4, e5] ∧ e ∉ rs1 := fun es row z2 z3 e he => by
      obtain ⟨w1, w2, w3⟩ := z3 e he
      obtain ⟨y, _, w4⟩ := z2.mem e he
      refine ⟨s1.free w1, ?_, w3⟩
      simp only [List.mem_cons, List.not_mem_nil, or_false, not_or]
      exact ⟨tr q26 w4 np, (tr (Same.refl _) b0 w1).symm, w2, tr (Same.refl _) w4 n2, tr q23 w4 n3, tr q24 w4 n4, tr q25 w4 n5⟩
    have f2 : ∀ x ∈ [p, e0, e1, e2, e3, e4, e5], H x = none := fun x hx => by
      simp only [List.mem_cons, List.not_mem_nil, or_false] at hx
      rcases hx with rfl | rfl | rfl | rfl | rfl | rfl | rfl
      · exact s16.free np
      · exact n0
      · exact s1.free n1
      · exact s12.free n2
      · exact s13.free n3
      · exact s14.free n4
      · exact s15.free n5
    have f3 : p ∉ [e0, e1, e2, e3, e4, e5] := by
      simp only [List.mem_cons, List.not_mem_nil, or_false, not_or]
      exact ⟨(tr q16 b0 np).symm, (tr q26 b1 np).symm, (tr q36 b2 np).symm, (tr q46 b3 np).symm, (tr s6 b4 np).symm, (tr (Same.refl _) b5 np).symm⟩
    have f4 : ∀ r, r ∈ rs0 ∨ r ∈ rs1 ∨ r ∈ rs2 → H r = none ∧ r ∉ [p, e0, e1, e2, e3, e4, e5] := fun r hr => by
      rcases hr with hr | hr | hr
      · obtain ⟨w1, w2⟩ := d0 r hr
        obtain ⟨y, _, w4⟩ := c0.mem r hr
        refine ⟨w1, ?_⟩
        simp only [List.mem_cons, List.not_mem_nil, or_false, not_or]
        exact ⟨tr q16 w4 np, w2, tr (Same.refl _) w4 n1, tr s2 w4 n2, tr q13 w4 n3, tr q14 w4 n4, tr q15 w4 n5⟩
      · obtain ⟨w1, w2⟩ := c1 r hr
        obtain ⟨y, _, es, w4, _⟩ := d1.mem r hr
        refine ⟨s1.free w1, ?_⟩
        simp only [List.mem_cons, List.not_mem_nil, or_false, not_or]
        exact ⟨tr q26 w4 np, (tr (Same.refl _) b0 w1).symm, w2, tr (Same.refl _) w4 n2, tr q23 w4 n3, tr q24 w4 n4, tr q25 w4 n5⟩
      · obtain ⟨w1, w2⟩ := d2 r hr
        obtain ⟨y, _, w4⟩ := c2.mem r hr
        refine ⟨s12.free w1, ?_⟩
        simp only [List.mem_cons, List.not_mem_nil, or_false, not_or]
        exact ⟨tr q36 w4 np, (tr s2 b0 w1).symm, (tr (Same.refl _) b1 w1).symm, w2, tr (Same.refl _) w4 n3, tr q34 w4 n4, tr q35 w4 n5⟩
    have f5 : ∀ r ∈ rs1, r ∉ rs0 := fun r hr hr0 => by
      obtain ⟨w1, _⟩ := c1 r hr
      obtain ⟨y, _, w4⟩ := c0.mem r hr0
      rw [w1] at w4
      cases w4
    have f6 : ∀ r ∈ rs2, r ∉ rs1 := fun r hr hr1 => by
      obtain ⟨w1, _⟩ := d2 r hr
      obtain ⟨y, _, es, w4, _⟩ := d1.mem r hr1
      rw [w1] at w4
      cases w4
    exact q _ p [e0, e1, e2, e3, e4, e5] rs0 rs1 rs2 (s16.trans s7) ⟨rfl, upd_same, u17 _ _ b0, u27 _ _ b1, u37 _ _ b2, u47 _ _ b3, u57 _ _ b4, s7 _ _ b5, c0.mono fun _ _ z => u17 _ _ z, d1.mono fun r row ⟨es, z1, z2, z3⟩ => ⟨es, u27 _ _ z1, z2.mono fun _ _ z => u27 _ _ z, f1 es row z2 z3⟩, c2.mono fun _ _ z => u37 _ _ z, f2, f3, f4, inj, f5, f6⟩
end
-- P16
/-! ### data and their texts -/
/-- may be shown and compared; a text of at most n signs -/
structure Gd (k n : Nat) (d : PyData) : Prop where
  sh : d.showable = true
  lay : d.canLay0 = true
  dep : d.depth ≤ k
  len : d.shown.length ≤ n
def tot (ts : List Str) : Nat := (ts.map fun t => t.length + 2).sum
theorem textFrom_tot : ∀ (ts : List Str) (k : Nat) (acc : Str), (textFrom k acc ts).length ≤ acc.length + tot ts
  | [], k, acc => Nat.le_add_right _ _
  | t :: r, k, acc => by
    have h := textFrom_tot r (k + 1) (acc ++ (if k > 0 then ", " else "" : String) ++ t)
    rw [Str.length_append, Str.length_append] at h
    have e : ((if k > 0 then ", " else "" : String) : Str).length ≤ 2 := by split <;> decide +kernel
    show (textFrom (k + 1) (acc ++ (if k > 0 then ", " else "" : String) ++ t) r).length ≤ _
    have e2 : tot (t :: r) = t.length + 2 + tot r := by unfold tot; rw [List.map_cons, List.sum_cons]
    omega
theorem join_tot : ∀ ts : List Str, (Str.join ", " ts).length ≤ tot ts
  | [] => Nat.zero_le _
  | [x] => by show x.length ≤ _; unfold tot; simp
  | x :: y :: r => by
    have h := join_tot (y :: r)
    show (x ++ ", " ++ Str.join ", " (y :: r)).length ≤ _
    rw [Str.length_append, Str.length_append]
    have e2 : tot (x :: y :: r) = x.length + 2 + tot (y :: r) := by unfold tot; rw [List.map_cons, List.sum_cons]
    have e3 : ((", " : String) : Str).length = 2 := rfl
    omega
/-- all of them, with all their texts together -/
inductive GdAll (k : Nat) : Nat → List PyData → Prop
  | nil : GdAll k 0 []
  | cons {n m : Nat} {d : PyData} {ds : List PyData} : Gd k n d → GdAll k m ds → GdAll k (n + 2 + m) (d :: ds)
theorem GdAll.facts {k : Nat} : ∀ {n : Nat} {ds : List PyData}, GdAll k n ds → PyData.showableAll ds = true ∧ PyData.canLayAll0 ds = true ∧ PyData.depthAll ds ≤ k ∧ tot (PyData.shownAll ds) ≤ n
  | _, _, .nil => ⟨rfl, rfl, Nat.zero_le _, Nat.le_refl _⟩
  | _, _, .cons (d := d) (ds := ds) h t => by
    obtain ⟨h1, h2, h3, h4⟩ := t.facts
    refine ⟨?_, ?_, ?_, ?_⟩
    · show (PyData.showable d && PyData.showableAll ds) = true
      rw [h.sh, h1]; rfl
    · show (PyData.canLay0 d && PyData.canLayAll0 ds) = true
      rw [h.lay, h2]; rfl
    · show max (PyData.depth d) (PyData.depthAll ds) ≤ k
      exact Nat.max_le.mpr ⟨h.dep, h3⟩
    · show tot (PyData.shown d :: PyData.shownAll ds) ≤ _
      unfold tot at h4 ⊢
      rw [List.map_cons, List.sum_cons]
      have := h.len
      omega
theorem GdAll.map {α : Type} {k n : Nat} {f : α → PyData} : ∀ {xs : List α}, (∀ x ∈ xs, Gd k n (f x)) → GdAll k (xs.length * (n + 2)) (xs.map f)
  | [], _ => by rw [List.length_nil, Nat.zero_mul]; exact .nil
  | x :: r, h => by
    rw [List.length_cons, Nat.succ_mul, Nat.add_comm]
    exact .cons (h x List.mem_cons_self) (GdAll.map fun y hy => h y (List.mem_cons_of_mem _ hy))
theorem Gd.list {k n : Nat} {ds : List PyData} (h : GdAll k n ds) : Gd (k + 1) (n + 2) (.list ds) := by
  obtain ⟨h1, h2, h3, h4⟩ := h.facts
  refine ⟨h1, h2, Nat.succ_le_succ h3, ?_⟩
  show (listText (PyData.shownAll ds)).length ≤ _
  unfold listText
  rw [Str.length_append]
  have := textFrom_tot (PyData.shownAll ds) 0 "["
  have e1 : (("[" : String) : Str).length = 1 := rfl
  have e2 : (("]" : String) : Str).length = 1 := rfl
  omega
theorem Gd.tup {k n : Nat} {ds : List PyData} (h : GdAll k n ds) : Gd (k + 1) (n + 3) (.tuple ds) := by
  obtain ⟨h1, h2, h3, h4⟩ := h.facts
  refine ⟨h1, h2, Nat.succ_le_succ h3, ?_⟩
  show (tupleText (PyData.shownAll ds)).length ≤ _
  unfold tupleText
  rw [Str.length_append, Str.length_append]
  have := join_tot (PyData.shownAll ds)
  have e1 : (("(" : String) : Str).length = 1 := rfl
  have e2 : ((if (PyData.shownAll ds).length == 1 then ",)" else ")" : String) : Str).length ≤ 2 := by split <;> decide +kernel
  omega
theorem Gd.mono {k l n m : Nat} {d : PyData} (h : Gd k n d) (a : k ≤ l) (b : n ≤ m) : Gd l m d := ⟨h.sh, h.lay, Nat.le_trans h.dep a, Nat.le_trans h.len b⟩
theorem Gd.int {i : Int} (h : i.natAbs < 10 ^ 8) : Gd 0 9 (.int i) := by
  refine ⟨decide_eq_true (log_small (by omega)), rfl, Nat.le_refl _, ?_⟩
  show (Str.ofString (toString i)).length ≤ 9
  rw [PySem.ofString_length]
  exact int_text_length_le10 (k := 8) (by decide) h
theorem str_ok {n : Nat} {s : Str} (h : GS n s) : (PyData.str s).canLay0 = true := by
  show s.cps.all (· < 0x110000) = true
  rw [← Array.all_toList, List.all_eq_true]
  exact fun c hc => decide_eq_true (Nat.lt_trans (h.2 c hc) (by decide))
theorem Gd.str {n : Nat} {s : Str} (h : GS n s) : Gd 0 (10 * n + 2) (.str s) := by
  refine ⟨rfl, str_ok h, Nat.le_refl _, ?_⟩
  refine Nat.le_trans (StrLaws.reprText_len s fun c hc => Nat.lt_trans (h.2 c hc) (by decide)) ?_
  have := h.1
  omega
theorem GdAll.up {k l n m : Nat} {ds : List PyData} (h : GdAll k n ds) (a : k ≤ l) (b : n ≤ m) : PyData.showableAll ds = true ∧ True := ⟨h.facts.1, trivial⟩
def dTm (t : Trm) : PyData := .tuple [dH t.h, .int (t.k : Nat), .int (t.j : Nat)]
def dLw (l : Lw) : PyData := if l.ex then .tuple [.str "exact", .list (l.ts.map dTm), .str l.src] else .tuple [.str "sized", .int (l.k : Nat), .int (l.j : Nat), .list (l.ts.map dTm), .str l.src]
def dMd (m : Mdl) : PyData := .tuple [.list (m.qs.map PyData.str), .list (m.ls.map dLw)]
theorem gd_tm {t : Trm} (hk : t.k < 4) (hj : t.j < 30) (hh : Gd 0 2002 (dH t.h)) : Gd 1 2033 (dTm t) :=
  (Gd.tup (.cons hh (.cons (Gd.int (by omega)) (.cons (Gd.int (by omega)) .nil)))).mono (Nat.le_refl _) (by decide)
theorem gd_lw {many : Nat} {l : Lw} (h : VL many l) (hm : many ≤ 30) : Gd 3 272000 (dLw l) := by
  have hh : ∀ t ∈ l.ts, Gd 1 2033 (dTm t) := fun t ht => by
    obtain ⟨a, b⟩ := h.ts t ht
    refine gd_tm a (by omega) ?_
    cases e : l.ex with
    | true =>
      obtain ⟨n, e2, _, b⟩ := h.num e t ht
      rw [e2]
      exact (Gd.int b).mono (Nat.le_refl _) (by decide)
    | false =>
      obtain ⟨s, e2, b⟩ := h.nam e t ht
      rw [e2]
      exact Gd.str (n := 200) b
  have hl : Gd 2 264552 (.list (l.ts.map dTm)) := (Gd.list (GdAll.map hh)).mono (Nat.le_refl _) (by have := h.many; show l.ts.length * 2035 + 2 ≤ 264552; omega)
  have hs : Gd 2 6002 (.str l.src) := (Gd.str (n := 600) h.src).mono (by decide) (Nat.le_refl _)
  unfold dLw
  cases e : l.ex with
  | true =>
    have he : Gd 2 52 (.str "exact") := (Gd.str (n := 5) ⟨by decide +kernel, by decide +kernel⟩).mono (by decide) (Nat.le_refl _)
    exact (Gd.tup (.cons he (.cons hl (.cons hs .nil)))).mono (Nat.le_refl _) (by decide)
  | false =>
    have he : Gd 2 52 (.str "sized") := (Gd.str (n := 5) ⟨by decide +kernel, by decide +kernel⟩).mono (by decide) (Nat.le_refl _)
    obtain ⟨a, b⟩ := h.own e
    have hi : ∀ x : Nat, x < 100 → Gd 2 9 (.int (x : Nat)) := fun x hx => (Gd.int (by omega)).mono (by decide) (Nat.le_refl _)
    exact (Gd.tup (.cons he (.cons (hi _ (by omega)) (.cons (hi _ (by omega)) (.cons hl (.cons hs .nil)))))).mono (Nat.le_refl _) (by decide)
theorem gd_md {m : Mdl} (h : VM m) : Gd 5 16000000 (dMd m) := by
  have h1 : Gd 1 180122 (.list (m.qs.map PyData.str)) := (Gd.list (GdAll.map (n := 6002) fun q hq => Gd.str (n := 600) (h.qs.2 q hq))).mono (Nat.le_refl _) (by have := h.qs.1; show m.qs.length * 6004 + 2 ≤ 180122; omega)
  have h2 : Gd 4 10880082 (.list (m.ls.map dLw)) := (Gd.list (GdAll.map fun l hl => gd_lw (h.ok l hl) h.qs.1)).mono (Nat.le_refl _) (by have := h.ls; show m.ls.length * 272002 + 2 ≤ 10880082; omega)
  exact (Gd.tup (.cons (h1.mono (by decide) (Nat.le_refl _)) (.cons h2 .nil))).mono (Nat.le_refl _) (by decide)
section
variable {K : PySem.W.Frag} {H : Hp}
theorem dpAll_of {α : Type} {R : V → α → Prop} {f : α → PyData} (h : ∀ v a, R v a → Dp K H v (f a)) : ∀ {xs : List V} {as : List α}, A2 R xs as → DpAll K H xs (as.map f)
  | _, _, .nil => .nil
  | _, _, .cons a t => .cons (h _ _ a) (dpAll_of h t)
theorem dp_tm {v : V} {t : Trm} (h : TmV K H v t) : Dp K H v (dTm t) := by
  obtain ⟨a, rfl, q⟩ := h
  refine .tup q (.cons ?_ (.cons (.int _) (.cons (.int _) .nil)))
  cases t.h with
  | inl n => exact .int n
  | inr s => exact .str s
theorem dp_lw {v : V} {l : Lw} (h : LW K H v l) : Dp K H v (dLw l) := by
  obtain ⟨a, p, rfl, ⟨xs, hx, hT⟩, ⟨e, q⟩ | ⟨e, q⟩⟩ := h
  · unfold dLw
    rw [e]
    exact .tup q (.cons (.str _) (.cons (.lst hx (dpAll_of (f := dTm) (fun _ _ => dp_tm) hT)) (.cons (.str _) .nil)))
  · unfold dLw
    rw [e]
    exact .tup q (.cons (.str _) (.cons (.int _) (.cons (.int _) (.cons (.lst hx (dpAll_of (f := dTm) (fun _ _ => dp_tm) hT)) (.cons (.str _) .nil)))))
theorem dp_strs : ∀ qs : List Str, DpAll K H (qs.map V.str) (qs.map PyData.str)
  | [] => .nil
  | q :: r => .cons (.str q) (dp_strs r)
theorem dp_md {v : V} {m : Mdl} (h : MD K H v m) : ∃ a, v = .ref a ∧ Dp K H (.ref a) (dMd m) := by
  obtain ⟨a, q, r, xs, rfl, h1, h2, h3, h4⟩ := h
  exact ⟨a, rfl, .tup h1 (.cons (.lst h2 (dp_strs _)) (.cons (.lst h3 (dpAll_of (f := dLw) (fun _ _ => dp_lw) h4)) .nil))⟩
end
-- P17
def dV : V → PyData
  | .int i => .int i
  | .str s => .str s
  | .bl b => .bool b
  | _ => .none
/-- flat, and of plain signs -/
def GV (v : V) : Prop := (v = .non ∨ (∃ i, v = .int i) ∨ ∃ s, v = .str s) ∧ (dV v).canLay0 = true
def dRow (row : List V) : PyData := .list (row.map dV)
def dTab (t : List (List V)) : PyData := .list (t.map dRow)
def dTold (m : Mdl) : PyData := .list [dTab (fPow m), .list ((fTab m).map dTab), dTab (fMeet m), dRow (fIdx true m), dRow (fIdx false m), dRow (fSizes m)]
theorem gv_int (i : Int) : GV (.int i) := ⟨.inr (.inl ⟨i, rfl⟩), rfl⟩
theorem gv_pow {m : Mdl} : ∀ row ∈ fPow m, ∀ v ∈ row, GV v := fun row hr v hv => by
  unfold fPow at hr
  obtain ⟨l, _, rfl⟩ := List.mem_map.mp hr
  obtain ⟨o, _, rfl⟩ := List.mem_map.mp hv
  cases o with
  | none => exact ⟨.inl rfl, rfl⟩
  | some k => exact gv_int _
theorem gv_tab {m : Mdl} : ∀ t ∈ fTab m, ∀ row ∈ t, ∀ v ∈ row, GV v := fun t ht row hr v hv => by
  unfold fTab at ht
  obtain ⟨l, _, e⟩ := List.mem_filterMap.mp ht
  unfold fTab1 at e
  split at e
  · cases e
    obtain ⟨ns, _, rfl⟩ := List.mem_map.mp hr
    obtain ⟨n, _, rfl⟩ := List.mem_map.mp hv
    exact gv_int _
  · cases e
theorem gv_meet {m : Mdl} : ∀ row ∈ fMeet m, ∀ v ∈ row, GV v := fun row hr v hv => by
  unfold fMeet at hr
  obtain ⟨l, _, e⟩ := List.mem_filterMap.mp hr
  unfold fMeet1 at e
  split at e
  · cases e
  · cases e
    obtain ⟨n, _, rfl⟩ := List.mem_map.mp hv
    exact gv_int _
theorem gv_idx {b : Bool} {m : Mdl} : ∀ v ∈ fIdx b m, GV v := fun v hv => by
  unfold fIdx at hv
  obtain ⟨n, _, rfl⟩ := List.mem_map.mp hv
  exact gv_int _
theorem gv_sizes {m : Mdl} (h : VM m) : ∀ v ∈ fSizes m, GV v := fun v hv => by
  unfold fSizes at hv
  obtain ⟨l, hl, hv⟩ := List.mem_flatMap.mp hv
  obtain ⟨hd, hh, rfl⟩ := List.mem_map.mp hv
  unfold Lw.heads at hh
  split at hh
  · cases hh
  · rename_i e
    obtain ⟨t, ht, rfl⟩ := List.mem_map.mp hh
    obtain ⟨s, e2, b⟩ := (h.ok l hl).nam (Bool.eq_false_iff.mpr e) t ht
    rw [e2]
    exact ⟨.inr (.inr ⟨s, rfl⟩), str_ok (n := 200) b⟩
theorem lay_map {α : Type} {f : α → PyData} : ∀ {xs : List α}, (∀ x ∈ xs, (f x).canLay0 = true) → PyData.canLayAll0 (xs.map f) = true
  | [], _ => rfl
  | x :: r, h => by
    show ((f x).canLay0 && PyData.canLayAll0 (r.map f)) = true
    rw [h x List.mem_cons_self, lay_map fun y hy => h y (List.mem_cons_of_mem _ hy)]; rfl
theorem dep_map {α : Type} {f : α → PyData} {n : Nat} (h : ∀ x, (f x).depth ≤ n) : ∀ xs : List α, PyData.depthAll (xs.map f) ≤ n
  | [] => Nat.zero_le _
  | x :: r => by
    show max (f x).depth (PyData.depthAll (r.map f)) ≤ n
    exact Nat.max_le.mpr ⟨h x, dep_map h r⟩
theorem dep_V (v : V) : (dV v).depth ≤ 0 := by cases v <;> exact Nat.le_refl _
theorem dep_row (r : List V) : (dRow r).depth ≤ 1 := Nat.succ_le_succ (dep_map dep_V r)
theorem dep_tab (t : List (List V)) : (dTab t).depth ≤ 2 := Nat.succ_le_succ (dep_map dep_row t)
theorem lay_row {r : List V} (h : ∀ v ∈ r, GV v) : (dRow r).canLay0 = true := lay_map fun v hv => (h v hv).2
theorem lay_tab {t : List (List V)} (h : ∀ r ∈ t, ∀ v ∈ r, GV v) : (dTab t).canLay0 = true := lay_map fun r hr => lay_row (h r hr)
theorem shaped_told {m : Mdl} (h : VM m) : SeqAt.shaped (dTold m) = true := by
  refine shaped_of ?_ ?_
  · show ((dTab (fPow m)).canLay0 && ((PyData.list ((fTab m).map dTab)).canLay0 && ((dTab (fMeet m)).canLay0 && ((dRow (fIdx true m)).canLay0 && ((dRow (fIdx false m)).canLay0 && ((dRow (fSizes m)).canLay0 && true)))))) = true
    rw [lay_tab gv_pow, lay_tab gv_meet, lay_row gv_idx, lay_row gv_idx, lay_row (gv_sizes h), show (PyData.list ((fTab m).map dTab)).canLay0 = true from lay_map fun t ht => lay_tab (gv_tab t ht)]
    rfl
  · show max (dTab (fPow m)).depth (max ((PyData.list ((fTab m).map dTab)).depth) (max (dTab (fMeet m)).depth (max (dRow (fIdx true m)).depth (max (dRow (fIdx false m)).depth (max (dRow (fSizes m)).depth 0))))) + 1 ≤ 64
    have a := dep_tab (fPow m)
    have b := dep_tab (fMeet m)
    have c := dep_row (fIdx true m)
    have d := dep_row (fIdx false m)
    have e := dep_row (fSizes m)
    have f : (PyData.list ((fTab m).map dTab)).depth ≤ 3 := Nat.succ_le_succ (dep_map dep_tab _)
    omega
section
variable {K : PySem.W.Frag} {H : Hp}
theorem dp_V {v : V} (h : GV v) : Dp K H v (dV v) := by
  rcases h.1 with rfl | ⟨i, rfl⟩ | ⟨s, rfl⟩
  · exact .non
  · exact .int i
  · exact .str s
theorem dp_vs : ∀ {r : List V}, (∀ v ∈ r, GV v) → DpAll K H r (r.map dV)
  | [], _ => .nil
  | v :: r, h => .cons (dp_V (h v List.mem_cons_self)) (dp_vs fun u hu => h u (List.mem_cons_of_mem _ hu))
theorem dp_row {a : Addr} {r : List V} (h : H a = some (.lst r)) (g : ∀ v ∈ r, GV v) : Dp K H (.ref a) (dRow r) := .lst (.of h) (dp_vs g)
theorem dp_refs {α : Type} {R : Addr → α → Prop} {f : α → PyData} : ∀ {rs : List Addr} {rows : List α}, A2 R rs rows → (∀ r row, row ∈ rows → R r row → Dp K H (.ref r) (f row)) → DpAll K H (rs.map V.ref) (rows.map f)
  | _, _, .nil, _ => .nil
  | _, _, .cons a t, h => .cons (h _ _ List.mem_cons_self a) (dp_refs t fun r row m => h r row (List.mem_cons_of_mem _ m))
theorem dp_rows {e : Addr} {rs : List Addr} {rows : List (List V)} (h : H e = some (.lst (rs.map V.ref))) (a : A2 (fun r row => H r = some (.lst row)) rs rows) (g : ∀ row ∈ rows, ∀ v ∈ row, GV v) : Dp K H (.ref e) (dTab rows) :=
  .lst (.of h) (dp_refs a fun r row m q => dp_row q (g row m))
theorem dp_tabs {e : Addr} {tab : List (List (List V))} (h : TabsD H e tab) (g : ∀ t ∈ tab, ∀ row ∈ t, ∀ v ∈ row, GV v) : Dp K H (.ref e) (.list (tab.map dTab)) := by
  obtain ⟨rs, h1, h2⟩ := h
  exact .lst (.of h1) (dp_refs h2 fun r t m ⟨es, q1, q2⟩ => dp_rows q1 q2 (g t m))
/-- six lists at p -/
structure Six (H : Hp) (p : Addr) (m : Mdl) (e0 e1 e2 e3 e4 e5 : Addr) : Prop where
  at_ : H p = some (.lst [.ref e0, .ref e1, .ref e2, .ref e3, .ref e4, .ref e5])
  t0 : ∃ rs : List Addr, H e0 = some (.lst (rs.map V.ref)) ∧ A2 (fun r row => H r = some (.lst row)) rs (fPow m)
  t1 : TabsD H e1 (fTab m)
  t2 : ∃ rs : List Addr, H e2 = some (.lst (rs.map V.ref)) ∧ A2 (fun r row => H r = some (.lst row)) rs (fMeet m)
  t3 : H e3 = some (.lst (fIdx true m))
  t4 : H e4 = some (.lst (fIdx false m))
  t5 : H e5 = some (.lst (fSizes m))
theorem Six.same {H' : Hp} {p : Addr} {m : Mdl} {e0 e1 e2 e3 e4 e5 : Addr} (s : Same H H') (h : Six H p m e0 e1 e2 e3 e4 e5) : Six H' p m e0 e1 e2 e3 e4 e5 := by
  obtain ⟨a, ⟨r0, b0, c0⟩, ⟨r1, b1, c1⟩, ⟨r2, b2, c2⟩, d, e, f⟩ := h
  exact ⟨s _ _ a, ⟨r0, s _ _ b0, c0.mono fun _ _ z => s _ _ z⟩, ⟨r1, s _ _ b1, c1.mono fun _ _ ⟨es, z1, z2⟩ => ⟨es, s _ _ z1, z2.mono fun _ _ z => s _ _ z⟩⟩, ⟨r2, s _ _ b2, c2.mono fun _ _ z => s _ _ z⟩, s _ _ d, s _ _ e, s _ _ f⟩
theorem Six.dp {p : Addr} {m : Mdl} {e0 e1 e2 e3 e4 e5 : Addr} (h : Six H p m e0 e1 e2 e3 e4 e5) (vm : VM m) : Dp K H (.ref p) (dTold m) := by
  obtain ⟨a, ⟨r0, b0, c0⟩, t1, ⟨r2, b2, c2⟩, d, e, f⟩ := h
  exact .lst (.of a) (.cons (dp_rows b0 c0 gv_pow) (.cons (dp_tabs t1 gv_tab) (.cons (dp_rows b2 c2 gv_meet) (.cons (dp_row d gv_idx) (.cons (dp_row e gv_idx) (.cons (dp_row f (gv_sizes vm)) .nil))))))
theorem Told.six {G : Hp} {p : Addr} {m : Mdl} {tops rs0 rs1 rs2 : List Addr} (h : Told H G p m tops rs0 rs1 rs2) : ∃ e0 e1 e2 e3 e4 e5, tops = [e0, e1, e2, e3, e4, e5] ∧ Six G p m e0 e1 e2 e3 e4 e5 := by
  obtain ⟨len, at_, t0, t1, t2, t3, t4, t5, a0, a1, a2, _⟩ := h
  obtain ⟨e0, e1, e2, e3, e4, e5, rfl⟩ : ∃ e0 e1 e2 e3 e4 e5, tops = [e0, e1, e2, e3, e4, e5] := by
    match tops, len with
    | [e0, e1, e2, e3, e4, e5], _ => exact ⟨e0, e1, e2, e3, e4, e5, rfl⟩
  exact ⟨e0, e1, e2, e3, e4, e5, rfl, at_, ⟨rs0, t0, a0⟩, ⟨rs1, t1, a1.mono fun _ _ ⟨es, z1, z2, _⟩ => ⟨es, z1, z2⟩⟩, ⟨rs2, t2, a2⟩, t3, t4, t5⟩
end
-- P17b
/-- some list of at most B items -/
def AL (G : Hp) (x : Addr) (B : Nat) : Prop := ∃ ys, G x = some (.lst ys) ∧ ys.length ≤ B
theorem AL.put {G : Hp} {x r : Addr} {B : Nat} {ys : List V} {v : V} (h : AL G x B) (hr : G r = some (.lst ys)) (hl : ys.length ≤ B) : AL (upd G r (.lst (ys ++ [v]))) x (B + 1) := by
  by_cases e : x = r
  · subst e
    exact ⟨_, upd_same, by rw [List.length_append]; exact Nat.succ_le_succ hl⟩
  · obtain ⟨zs, h1, h2⟩ := h
    exact ⟨zs, by rw [upd_ne e]; exact h1, Nat.le_succ_of_le h2⟩
theorem AL.up {G : Hp} {x : Addr} {B C : Nat} (h : AL G x B) (l : B ≤ C) : AL G x C := let ⟨ys, a, b⟩ := h; ⟨ys, a, Nat.le_trans b l⟩
/-- while what was told is being changed -/
structure Mut (Hd G : Hp) (p : Addr) (tops rs0 rs1 rs2 : List Addr) (B c1 : Nat) : Prop where
  same : Same Hd G
  tp : G p = some (.lst (tops.map V.ref))
  t0 : G (tops.getD 0 0) = some (.lst (rs0.map V.ref))
  t1 : G (tops.getD 1 0) = some (.lst (rs1.map V.ref))
  t2 : G (tops.getD 2 0) = some (.lst (rs2.map V.ref))
  l0 : ∀ r ∈ rs0, AL G r B
  l2 : ∀ r ∈ rs2, AL G r B
  l3 : ∀ k, 3 ≤ k → k < 6 → AL G (tops.getD k 0) B
  r1 : ∀ (j : Nat) (r : Addr), rs1[j]? = some r → ∃ es : List Addr, es.length ≤ 30 ∧ G r = some (.lst (es.map V.ref ++ (if j < c1 then [V.int 77] else []))) ∧ ∀ e ∈ es, Hd e = none ∧ e ∉ p :: tops ∧ e ∉ rs1 ∧ AL G e B
section
variable {Hd G : Hp} {p : Addr} {tops rs0 rs1 rs2 : List Addr} {B c1 : Nat}
theorem getD_mem {tops : List Addr} {k : Nat} (h : k < tops.length) : tops.getD k 0 ∈ tops := by
  rw [List.getD_eq_getElem?_getD, List.getElem?_eq_getElem h]
  exact List.getElem_mem h
theorem same_put {x : Addr} {o : HO} (s : Same Hd G) (n : Hd x = none) : Same Hd (upd G x o) := same_over s n
theorem Mut.putE {x : Addr} {ys : List V} {v : V} (M : Mut Hd G p tops rs0 rs1 rs2 B c1) (ht : tops.length = 6) (hx : G x = some (.lst ys)) (hl : ys.length ≤ B) (n : Hd x = none) (nt : x ∉ p :: tops) (n1 : x ∉ rs1) :
    Mut Hd (upd G x (.lst (ys ++ [v]))) p tops rs0 rs1 rs2 (B + 1) c1 := by
  have ne : ∀ k, k < 6 → tops.getD k 0 ≠ x := fun k hk z => nt (List.mem_cons_of_mem _ (z ▸ getD_mem (by omega)))
  have np : p ≠ x := fun z => nt (z ▸ List.mem_cons_self)
  obtain ⟨s, tp, t0, t1, t2, l0, l2, l3, r1⟩ := M
  refine ⟨same_put s n, by rw [upd_ne np]; exact tp, by rw [upd_ne (ne 0 (by decide))]; exact t0, by rw [upd_ne (ne 1 (by decide))]; exact t1, by rw [upd_ne (ne 2 (by decide))]; exact t2,
    fun r hr => (l0 r hr).put hx hl, fun r hr => (l2 r hr).put hx hl, fun k h1 h2 => (l3 k h1 h2).put hx hl, fun j r hj => ?_⟩
  obtain ⟨es, h1, h2, h3⟩ := r1 j r hj
  have rx : r ≠ x := fun z => n1 (z ▸ mem_at hj)
  exact ⟨es, h1, by rw [upd_ne rx]; exact h2, fun e he => let ⟨a, b, c, d⟩ := h3 e he; ⟨a, b, c, d.put hx hl⟩⟩
theorem Mut.putR {x : Addr} {es : List Addr} (M : Mut Hd G p tops rs0 rs1 rs2 B c1) (ht : tops.length = 6) (hj : rs1[c1]? = some x) (inj : Inj rs1) (n : Hd x = none) (nt : x ∉ p :: tops) (hB : 31 ≤ B) (hx : G x = some (.lst (es.map V.ref))) (hes : es.length ≤ 30) :
    Mut Hd (upd G x (.lst (es.map V.ref ++ [V.int 77]))) p tops rs0 rs1 rs2 (B + 1) (c1 + 1) := by
  have ne : ∀ k, k < 6 → tops.getD k 0 ≠ x := fun k hk z => nt (List.mem_cons_of_mem _ (z ▸ getD_mem (by omega)))
  have np : p ≠ x := fun z => nt (z ▸ List.mem_cons_self)
  have hl : (es.map V.ref).length ≤ B := by rw [List.length_map]; omega
  obtain ⟨s, tp, t0, t1, t2, l0, l2, l3, r1⟩ := M
  refine ⟨same_put s n, by rw [upd_ne np]; exact tp, by rw [upd_ne (ne 0 (by decide))]; exact t0, by rw [upd_ne (ne 1 (by decide))]; exact t1, by rw [upd_ne (ne 2 (by decide))]; exact t2,
    fun r hr => (l0 r hr).put hx hl, fun r hr => (l2 r hr).put hx hl, fun k h1 h2 => (l3 k h1 h2).put hx hl, fun j r hr => ?_⟩
  obtain ⟨fs, h1, h2, h3⟩ := r1 j r hr
  by_cases e : r = x
  · subst e
    obtain rfl := inj _ _ _ hr hj
    rw [if_neg (by omega), List.append_nil] at h2
    have e2 : es.map V.ref = fs.map V.ref := by
      have := hx.symm.trans h2
      injection this with this
      injection this
    refine ⟨fs, h1, by rw [upd_same, if_pos (Nat.lt_succ_self _), e2], fun u hu => ?_⟩
    obtain ⟨a, b, c, d⟩ := h3 u hu
    exact ⟨a, b, c, d.put hx hl⟩
  · have jc : j ≠ c1 := fun z => e (by subst z; exact Option.some.inj (hr.symm.trans hj))
    have ei : (if j < c1 + 1 then [V.int 77] else []) = (if j < c1 then [V.int 77] else ([] : List V)) := by
      by_cases q : j < c1
      · rw [if_pos q, if_pos (by omega)]
      · rw [if_neg q, if_neg (by omega)]
    refine ⟨fs, h1, by rw [upd_ne e, h2, ei], fun u hu => ?_⟩
    obtain ⟨a, b, c, d⟩ := h3 u hu
    exact ⟨a, b, c, d.put hx hl⟩
theorem Mut.same' {G' : Hp} (M : Mut Hd G p tops rs0 rs1 rs2 B c1) (s : Same G G') : Mut Hd G' p tops rs0 rs1 rs2 B c1 := by
  obtain ⟨s0, tp, t0, t1, t2, l0, l2, l3, r1⟩ := M
  have al : ∀ x, AL G x B → AL G' x B := fun x ⟨ys, a, b⟩ => ⟨ys, s _ _ a, b⟩
  exact ⟨s0.trans s, s _ _ tp, s _ _ t0, s _ _ t1, s _ _ t2, fun r h => al r (l0 r h), fun r h => al r (l2 r h), fun k a b => al _ (l3 k a b), fun j r h => let ⟨es, a, b, c⟩ := r1 j r h; ⟨es, a, s _ _ b, fun e he => let ⟨x, y, z, w⟩ := c e he; ⟨x, y, z, al e w⟩⟩⟩
theorem Mut.up {C : Nat} (M : Mut Hd G p tops rs0 rs1 rs2 B c1) (l : B ≤ C) : Mut Hd G p tops rs0 rs1 rs2 C c1 := by
  obtain ⟨s0, tp, t0, t1, t2, l0, l2, l3, r1⟩ := M
  exact ⟨s0, tp, t0, t1, t2, fun r h => (l0 r h).up l, fun r h => (l2 r h).up l, fun k a b => (l3 k a b).up l, fun j r h => let ⟨es, a, b, c⟩ := r1 j r h; ⟨es, a, b, fun e he => let ⟨x, y, z, w⟩ := c e he; ⟨x, y, z, w.up l⟩⟩⟩
end
theorem idx_len (b : Bool) (ls : List Lw) (i : Nat) : (idx b ls i).length ≤ i := by
  unfold idx
  rw [List.length_map]
  exact Nat.le_trans (List.length_filter_le _ _) (by rw [List.length_range]; exact Nat.le_refl _)
theorem Told.mut {H G : Hp} {p : Addr} {m : Mdl} {tops rs0 rs1 rs2 : List Addr} (h : Told H G p m tops rs0 rs1 rs2) (vm : VM m) (s : Same H G) : Mut H G p tops rs0 rs1 rs2 6000 0 := by
  have q := vm.qs.1
  refine ⟨s, h.at_, h.t0, h.t1, h.t2, fun r hr => ?_, fun r hr => ?_, fun k k1 k2 => ?_, fun j r hj => ?_⟩
  · obtain ⟨row, hm, z⟩ := h.a0.mem r hr
    refine ⟨row, z, ?_⟩
    unfold fPow at hm
    obtain ⟨l, _, rfl⟩ := List.mem_map.mp hm
    rw [List.length_map]
    unfold prowN
    rw [pfold_len, List.length_replicate]
    omega
  · obtain ⟨row, hm, z⟩ := h.a2.mem r hr
    refine ⟨row, z, ?_⟩
    unfold fMeet at hm
    obtain ⟨l, _, e⟩ := List.mem_filterMap.mp hm
    unfold fMeet1 at e
    split at e
    · cases e
    · cases e
      rw [List.length_map]
      unfold meet
      rw [List.length_map]
      have := List.length_filter_le (fun j => l.places.any fun p => p.2 == j) (List.range m.qs.length)
      rw [List.length_range] at this
      omega
  · have a := idx_len true m.ls m.ls.length
    have b := idx_len false m.ls m.ls.length
    have c := sizes_len (ls := m.ls) fun l hl => (vm.ok l hl).many
    have l40 := vm.ls
    match k, k1, k2 with
    | 3, _, _ => exact ⟨_, h.t3, by unfold fIdx; rw [List.length_map]; omega⟩
    | 4, _, _ => exact ⟨_, h.t4, by unfold fIdx; rw [List.length_map]; omega⟩
    | 5, _, _ => exact ⟨_, h.t5, by unfold fSizes; omega⟩
  · obtain ⟨t, ht, es, h1, h2, h3⟩ := h.a1.get hj
    have mt := mem_at ht
    unfold fTab at mt
    obtain ⟨l, hl, e⟩ := List.mem_filterMap.mp mt
    unfold fTab1 at e
    split at e
    · cases e
      refine ⟨es, ?_, by rw [if_neg (by omega), List.append_nil]; exact h1, fun u hu => ?_⟩
      · rw [h2.len, List.length_map]
        unfold erow
        rw [efold_len, List.length_replicate]
        exact q
      · obtain ⟨a, b, c⟩ := h3 u hu
        obtain ⟨x, hx, d⟩ := h2.mem u hu
        refine ⟨a, b, c, x, d, ?_⟩
        obtain ⟨ns, hns, rfl⟩ := List.mem_map.mp hx
        obtain ⟨k, hk⟩ := List.getElem?_of_mem hns
        have := erow_le (many := m.qs.length) (ts := l.ts) (fun t ht => ((vm.ok l hl).ts t ht).1) k
        rw [List.getD_eq_getElem?_getD, hk] at this
        rw [List.length_map]
        exact Nat.le_trans this (by decide)
    · cases e
-- P18
section
variable {P : Program} {w : World} {K : PySem.W.Frag} {mg : Str → Option Value} {base : Heap}
def kV (b : Bool) : V := .str (if b then "exact" else "sized")
theorem str_sz (b : Bool) : decide (V.str (if b then "exact" else "sized") = V.str "sized") = !b := by
  cases b <;> decide +kernel
theorem bls_true {n : Nat} {ys : List V} {as : List Addr} (h : A2 (fun v (_ : Addr) => v = V.bl true) ys as) (hn : as.length = n) : ys = (List.replicate n true).map V.bl := by
  rw [a2_eq (f := fun _ : Addr => V.bl true) h, List.map_replicate, List.map_const', hn]
theorem all_rep (n : Nat) : (List.replicate n true).all id = true := by
  induction n with
  | zero => rfl
  | succ k ih => rw [List.replicate_succ, List.all_cons, ih]; rfl
def sp_law (K : PySem.W.Frag) : Sp := fun vs H Q _ => ∃ (a : Addr) (ns : List Int), vs = [.ref a] ∧ SqL K H a (ns.map V.int) ∧ ns.length ≤ 63 ∧ ∀ H', Q (.bl true) H'
theorem ref_at {rs : List Addr} {j : Nat} {x : V} (h : (rs.map V.ref)[j]? = some x) : ∃ r, rs[j]? = some r ∧ x = .ref r := by
  rw [List.getElem?_map] at h
  cases e : rs[j]? with
  | none => rw [e] at h; cases h
  | some r => rw [e] at h; exact ⟨r, rfl, (Option.some.inj h).symm⟩
theorem cut3 {xs : List V} {L : Nat} (h : L ≤ xs.length) : cutV xs none (some (L : Int)) = xs.take L := by
  unfold cutV
  rw [HT.sIx_none, HT.sIx_nat, List.drop_zero, Nat.min_eq_left h, Nat.sub_zero]
theorem ok_law (T : Txt K mg) : LG.FnG P w K mg base CX0 7 T.law.a T.law.fd ["script"] (sp_law K) := by
  refine LG.fun_okG T.law.F sc_law (fun vs H Q E h => ?_) (fun cdv A outer s H vs Q E hr gd h => ?_)
  · obtain ⟨a, ns, rfl, _⟩ := h
    rfl
  · obtain ⟨a, ns, rfl, ha, hl, q⟩ := h
    refine ⟨_, (pss_cons (ps_set (i := 1) sc_law.nd rfl (.inl rfl) (pe_call (ok_law_draws T) (hr.mono (by decide)) (by rfl) T.law_draws.g T.law_draws.F.kp T.law_draws.b .nil pass0 (pa_cons (pv 0) pa_nil)))
      (pss_cons (ps_set (i := 2) sc_law.nd rfl (.inl rfl) (pe_call (ok_law_model T) (hr.mono (by decide)) (by rfl) T.law_model.g T.law_model.F.kp T.law_model.b .nil pass0 (pa_cons (pv 1) (pa_cons pe_int pa_nil))))
      (pss_cons (ps_set (i := 3) sc_law.nd rfl (.inl rfl) (pe_callB (LG.call_reprD gd hr.units) (by rfl) T.m_repr (by decide +kernel) (pa_cons (pv 2) pa_nil)))
      (pss_cons (ps_set (i := 5) sc_law.nd rfl (.inr rfl) (pe_lc (own := [("law", 4)]) rfl sc_law.nd (pi_list (pe_ix ix_tup (pv 2) pe_int (fun _ _ => rfl))) (blkOk_by (N := ["script", "draws", "model", "kept", "law", "kinds", "due", "sizes", "told", "each", "row", "element", "i", "term"]) (sc := defScope s_law) (by decide +kernel)) (fun _ _ _ _ _ => (pg_name (i := 4) sc_law.nd rfl (.inl rfl))) (fun _ _ _ _ _ => pts_nil) (fun _ _ _ _ _ => (pe_ix (r := rIxT K) ix_tup (pv 4) pe_int (fun _ _ => rfl)))))
      (pss_cons (ps_set (i := 6) sc_law.nd rfl (.inl rfl) (pe_lst (pa_cons (pe_call (ok_law_powers T) (hr.mono (by decide)) (by rfl) T.law_powers.g T.law_powers.F.kp T.law_powers.b .nil pass0 (pa_cons (pv 2) pa_nil)) (pa_cons (pe_call (ok_law_table T) (hr.mono (by decide)) (by rfl) T.law_table.g T.law_table.F.kp T.law_table.b .nil pass0 (pa_cons (pv 2) pa_nil)) (pa_cons (pe_call (ok_law_meetings T) (hr.mono (by decide)) (by rfl) T.law_meetings.g T.law_meetings.F.kp T.law_meetings.b .nil pass0 (pa_cons (pv 2) pa_nil)) pa_nil)))))
      (pss_cons (ps_expr (pe_bm PySem.F.plainAttrs_list PySem.F.slot_list_append PySem.F.type_list_append mt_append (pv 6) (pa_cons (pe_lc (own := [("i", 12)]) rfl sc_law.nd (pi_range1 (by rfl) T.m_range (pa_cons (pe_callB call_len_seq (by rfl) T.m_len (by decide +kernel) (pa_cons (pv 5) pa_nil)) pa_nil)) (blkOk_by (N := ["script", "draws", "model", "kept", "law", "kinds", "due", "sizes", "told", "each", "row", "element", "i", "term"]) (sc := defScope s_law) (by decide +kernel)) (fun _ _ _ _ _ => (pg_name (i := 12) sc_law.nd rfl (.inl rfl))) (fun _ _ _ _ _ => (pts_one (pt_cmpR op_eq (pe_ix (r := rIxL K) ix_list (pv 5) (pv 12) (fun _ _ => rfl)) pe_str (nomark _)))) (fun _ _ _ _ _ => (pv 12))) pa_nil)))
      (pss_cons (ps_expr (pe_bm PySem.F.plainAttrs_list PySem.F.slot_list_append PySem.F.type_list_append mt_append (pv 6) (pa_cons (pe_lc (own := [("i", 12)]) rfl sc_law.nd (pi_range1 (by rfl) T.m_range (pa_cons (pe_callB call_len_seq (by rfl) T.m_len (by decide +kernel) (pa_cons (pv 5) pa_nil)) pa_nil)) (blkOk_by (N := ["script", "draws", "model", "kept", "law", "kinds", "due", "sizes", "told", "each", "row", "element", "i", "term"]) (sc := defScope s_law) (by decide +kernel)) (fun _ _ _ _ _ => (pg_name (i := 12) sc_law.nd rfl (.inl rfl))) (fun _ _ _ _ _ => (pts_one (pt_cmpR op_eq (pe_ix (r := rIxL K) ix_list (pv 5) (pv 12) (fun _ _ => rfl)) pe_str (nomark _)))) (fun _ _ _ _ _ => (pv 12))) pa_nil)))
      (pss_cons (ps_set (i := 7) sc_law.nd rfl (.inl rfl) (pe_lst pa_nil))
      (pss_cons (ps_for PassesOwn.never rfl (pi_list (pe_ix ix_tup (pv 2) pe_int (fun _ _ => rfl))) (pg_name (i := 4) sc_law.nd rfl (.inl rfl))
        (pss_one (ps_if (pt_cmpR op_eq (pe_ix ix_tup (pv 4) pe_int (fun _ _ => rfl)) pe_str (nomark _))
          (pss_one (ps_set (i := 7) sc_law.nd rfl (.inl rfl) (pe_op op_cat (pv 7) (pe_lc (own := [("term", 13)]) rfl sc_law.nd (pi_list (pe_ix ix_tup (pv 4) pe_int (fun _ _ => rfl))) (blkOk_by (N := ["script", "draws", "model", "kept", "law", "kinds", "due", "sizes", "told", "each", "row", "element", "i", "term"]) (sc := defScope s_law) (by decide +kernel)) (fun _ _ _ _ _ => (pg_name (i := 13) sc_law.nd rfl (.inl rfl))) (fun _ _ _ _ _ => pts_nil) (fun _ _ _ _ _ => (pe_ix (r := rIxT K) ix_tup (pv 13) pe_int (fun _ _ => rfl)))))))
          pss_nil)))
      (pss_cons (ps_expr (pe_bm PySem.F.plainAttrs_list PySem.F.slot_list_append PySem.F.type_list_append mt_append (pv 6) (pa_cons (pv 7) pa_nil)))
      (pss_cons (ps_set (i := 8) sc_law.nd rfl (.inl rfl) (pe_call (ok_law_told T) (hr.mono (by decide)) (by rfl) T.law_told.g T.law_told.F.kp T.law_told.b .nil pass0 (pa_cons (pv 2) pa_nil)))
      (pss_cons (ps_if (PW.pt (pw_or (pt_cmpR (op_neD hr.units) (pv 8) (pv 6) (nomark _)) (pw_or (pt_not (pt_val (pe_callB (cr_all rfl) (by rfl) T.m_all (by decide +kernel) (pa_cons (pe_lc (own := [("each", 9)]) rfl sc_law.nd (pi_list (pv 8)) (blkOk_by (N := ["script", "draws", "model", "kept", "law", "kinds", "due", "sizes", "told", "each", "row", "element", "i", "term"]) (sc := defScope s_law) (by decide +kernel)) (fun _ _ _ _ _ => (pg_name (i := 9) sc_law.nd rfl (.inl rfl))) (fun _ _ _ _ _ => pts_nil) (fun _ _ _ _ _ => (pe_callB (id := "isinstance") (r := rIsi K) call_isi (by rfl) T.m_isinstance (by decide +kernel) (pa_cons (pv 9) (pa_cons (pe_bltn (v := .ty "list") (by rfl) T.m_list (by decide +kernel) rfl) pa_nil))))) pa_nil)))) (pw_or1 (pt_cmpR op_ne (pe_callB (LG.call_reprD gd hr.units) (by rfl) T.m_repr (by decide +kernel) (pa_cons (pv 2) pa_nil)) (pv 3) (nomark _))))))
        (pss_one (ps_ret pe_bl))
        pss_nil)
      (pss_cons (ps_for PassesOwn.never rfl (pi_list (pe_slice sl_list (pv 8) po_none (po_some pe_int))) (pg_name (i := 9) sc_law.nd rfl (.inl rfl))
        (pss_one (ps_for PassesOwn.never rfl (pi_list (pv 9)) (pg_name (i := 10) sc_law.nd rfl (.inl rfl))
          (pss_one (ps_expr (pe_bm PySem.F.plainAttrs_list PySem.F.slot_list_append PySem.F.type_list_append mt_append (pv 10) (pa_cons pe_int pa_nil)))))))
      (pss_cons (ps_for PassesOwn.never rfl (pi_list (pe_ix ix_list (pv 8) pe_int (fun _ _ => rfl))) (pg_name (i := 10) sc_law.nd rfl (.inl rfl))
        (pss_one (ps_for PassesOwn.never rfl (pi_list (pe_slice sl_list (pv 10) po_none (po_some (pe_op op_sub (pe_callB call_len_seq (by rfl) T.m_len (by decide +kernel) (pa_cons (pv 10) pa_nil)) pe_int)))) (pg_name (i := 11) sc_law.nd rfl (.inl rfl))
          (pss_one (ps_expr (pe_bm PySem.F.plainAttrs_list PySem.F.slot_list_append PySem.F.type_list_append mt_append (pv 11) (pa_cons pe_int pa_nil)))))))
      (pss_cons (ps_for PassesOwn.never rfl (pi_list (pv 8)) (pg_name (i := 9) sc_law.nd rfl (.inl rfl))
        (pss_one (ps_expr (pe_bm PySem.F.plainAttrs_list PySem.F.slot_list_append PySem.F.type_list_append mt_append (pv 9) (pa_cons pe_int pa_nil)))))
      (pss_one (ps_ret (pe_and (pe_cmpR (op_eqD hr.units) (pe_call (ok_law_told T) (hr.mono (by decide)) (by rfl) T.law_told.g T.law_told.F.kp T.law_told.b .nil pass0 (pa_cons (pv 2) pa_nil)) (pv 6) (nomark _)) (pe_one (pe_cmpR op_eq (pe_callB (LG.call_reprD gd hr.units) (by rfl) T.m_repr (by decide +kernel) (pa_cons (pv 2) pa_nil)) (pv 3) (nomark _))))))))))))))))))))), ?_⟩
    refine ⟨.ref a, rfl, a, ns, rfl, ha, hl, fun H1 d ds s1 nd hd => ?_⟩
    refine ⟨.ref d, rfl, d, ds, 0, rfl, hd, Int.le_refl _, fun H2 v m s2 hm vm => ?_⟩
    have g := gd_md vm
    have gd0 := PyData.hasDict_of_canLay _ g.lay
    have hm' := hm
    obtain ⟨am, qa, r, xs, rfl, h1, h2, h3, h4⟩ := hm'
    have dpm : ∀ G, Same H2 G → Dp K G (.ref am) (dMd m) := fun G sG => by
      obtain ⟨a', e, z⟩ := dp_md (hm.same sG)
      exact e ▸ z
    refine ⟨.ref am, rfl, am, dMd m, rfl, dpm _ (Same.refl _), g.sh, gd0, Nat.le_trans g.dep (by decide), Nat.le_trans g.len (by decide), ?_⟩
    generalize hkept : (dMd m).shown = kept
    refine ⟨.ref am, rfl, am, _, _, _, rfl, rfl, h1, rfl, r, rfl, ⟨xs, h3⟩, fun D nD => ?_⟩
    have lx := h4.len
    have l40 := vm.ls
    refine lc_fm (walk_list (xs := xs)) m.ls (fun l => some l.ex) (fun _ v b => v = kV b) (fun _ _ _ _ _ z => z) lx.symm nD (fun H' s => s.seq h3) (small' (by omega)) (fun i x H' Hx ys l hl sm hD y Qt Qf qt qf => ?_) (fun H3 ys s3 hD hR => ?_)
    · obtain ⟨rfl, hx⟩ := y
      obtain ⟨l', hl', rl⟩ := h4.get hx
      obtain rfl := Option.some.inj (hl.symm.trans hl')
      obtain ⟨b, zs, rfl, hb, h0⟩ := ex_eq (rl.same sm)
      exact ⟨rfl, _, rfl, b, zs, _, _, rfl, rfl, hb, h0, qt _ _ _ rfl (Same.refl _) rfl⟩
    have ek := a2_eq (f := kV) hR
    rw [fm_id] at ek
    subst ek
    refine ⟨.ref am, rfl, .ref am, m, rfl, hm.same s3, vm, fun H4 e0 s4 n0 ⟨rs0, b0, c0, _⟩ => ?_⟩
    refine ⟨.ref am, rfl, .ref am, m, rfl, hm.same (s3.trans s4), vm, fun H5 e1 s5 t1 => ?_⟩
    refine ⟨.ref am, rfl, .ref am, m, rfl, hm.same (s3.trans (s4.trans s5)), vm, fun H6 e2 s6 n2 ⟨rs2, b2, c2, _⟩ => ?_⟩
    have s36 := s4.trans (s5.trans s6)
    refine ⟨by show 3 ≤ sizeLine; decide, fun du nu => ?_⟩
    have s7 := same_upd nu (o := .lst [V.ref e0, V.ref e1, V.ref e2])
    have s37 := s36.trans s7
    have kat : ∀ i : Nat, i < m.ls.length → ∃ l, m.ls[i]? = some l ∧ atI ((m.ls.map Lw.ex).map kV) (0 + (i : Int)) = some (kV l.ex) := fun i hi => by
      obtain ⟨l, hl⟩ : ∃ l, m.ls[i]? = some l := ⟨m.ls[i], by simp [hi]⟩
      refine ⟨l, hl, ?_⟩
      rw [Int.zero_add]
      refine atI_nat ?_
      rw [List.getElem?_map, List.getElem?_map, hl]; rfl
    have hDk : ∀ G, Same H3 G → G D = some (.lst ((m.ls.map Lw.ex).map kV)) := fun G sG => sG _ _ hD
    have kl : ((m.ls.map Lw.ex).map kV).length = m.ls.length := by rw [List.length_map, List.length_map]
    refine ⟨.ref du, rfl, .inl ⟨rfl, _, .of upd_same⟩, .ref D, rfl, D, _, rfl, .inl (.of (hDk _ s37)), (m.ls.length : Nat), by rw [kl], by omega, by omega, fun X nX => ?_⟩
    rw [Int.toNat_natCast]
    refine lc_inv (walk_range (lo := 0) (n := m.ls.length)) (fun i G ys => ys = (idx true m.ls i).map V.int) nX (fun _ _ => trivial) (small' (by omega)) rfl (fun i x G Hx ys hi sm hDX hR y Qt Qf qt qf => ?_) (fun H8 ys s8 hX hR => ?_)
    · obtain ⟨rfl, rfl⟩ := y
      obtain ⟨l, hl, hat⟩ := kat i hi
      refine ⟨rfl, .ref D, rfl, _, rfl, D, _, _, _, rfl, rfl, .of (hDk _ (s37.trans sm)), hat, rfl, _, rfl, ?_⟩
      unfold kV
      rw [str_ex]
      cases e : l.ex with
      | true =>
        refine iteT ⟨_, rfl, qt _ _ (Same.refl _) ?_⟩
        rw [idx_yes hl e, List.map_append, hR]
        show _ ++ [V.int (0 + (i : Int))] = _
        rw [Int.zero_add]; rfl
      | false =>
        refine iteF (qf _ (Same.refl _) ?_)
        rw [idx_no hl (by rw [e]; decide), hR]
    have hdu8 := s8 _ _ upd_same
    have Xu : X ≠ du := fun z => by rw [z, upd_same] at nX; cases nX
    rw [hR] at hX
    refine ⟨du, _, _, rfl, rfl, hdu8, by show 3 < sizeLine; decide, ?_⟩
    have sG8 : Same H6 (upd H8 du (.lst ([V.ref e0, V.ref e1, V.ref e2] ++ [V.ref X]))) := same_over (s7.trans s8) nu
    have hdu : upd H8 du (.lst ([V.ref e0, V.ref e1, V.ref e2] ++ [V.ref X])) du = some (.lst [V.ref e0, V.ref e1, V.ref e2, V.ref X]) := upd_same
    have hX8 : upd H8 du (.lst ([V.ref e0, V.ref e1, V.ref e2] ++ [V.ref X])) X = some (.lst (fIdx true m)) := by rw [upd_ne Xu]; exact hX
    generalize upd H8 du (.lst ([V.ref e0, V.ref e1, V.ref e2] ++ [V.ref X])) = G8 at sG8 hdu hX8
    have s38 := s36.trans sG8
    refine ⟨.ref du, rfl, .inl ⟨rfl, _, .of hdu⟩, .ref D, rfl, D, _, rfl, .inl (.of (hDk _ s38)), (m.ls.length : Nat), by rw [kl], by omega, by omega, fun X2 nX2 => ?_⟩
    rw [Int.toNat_natCast]
    refine lc_inv (walk_range (lo := 0) (n := m.ls.length)) (fun i G ys => ys = (idx false m.ls i).map V.int) nX2 (fun _ _ => trivial) (small' (by omega)) rfl (fun i x G Hx ys hi sm hDX hR y Qt Qf qt qf => ?_) (fun H9 ys s9 hXX hR2 => ?_)
    · obtain ⟨rfl, rfl⟩ := y
      obtain ⟨l, hl, hat⟩ := kat i hi
      refine ⟨rfl, .ref D, rfl, _, rfl, D, _, _, _, rfl, rfl, .of (hDk _ (s38.trans sm)), hat, rfl, _, rfl, ?_⟩
      unfold kV
      rw [str_sz]
      cases e : l.ex with
      | false =>
        refine iteT ⟨_, rfl, qt _ _ (Same.refl _) ?_⟩
        rw [idx_yes hl e, List.map_append, hR]
        show _ ++ [V.int (0 + (i : Int))] = _
        rw [Int.zero_add]; rfl
      | true =>
        refine iteF (qf _ (Same.refl _) ?_)
        rw [idx_no hl (by rw [e]; decide), hR]
    have X2u : X2 ≠ du := fun z => by rw [z, hdu] at nX2; cases nX2
    rw [hR2] at hXX
    refine ⟨du, _, _, rfl, rfl, s9 _ _ hdu, by show 4 < sizeLine; decide, ?_⟩
    have sG9 : Same H6 (upd H9 du (.lst ([V.ref e0, V.ref e1, V.ref e2, V.ref X] ++ [V.ref X2]))) := same_over (sG8.trans s9) nu
    have hdu9 : upd H9 du (.lst ([V.ref e0, V.ref e1, V.ref e2, V.ref X] ++ [V.ref X2])) du = some (.lst [V.ref e0, V.ref e1, V.ref e2, V.ref X, V.ref X2]) := upd_same
    have hX9 : upd H9 du (.lst ([V.ref e0, V.ref e1, V.ref e2, V.ref X] ++ [V.ref X2])) X = some (.lst (fIdx true m)) := by rw [upd_ne Xu]; exact s9 _ _ hX8
    have hX29 : upd H9 du (.lst ([V.ref e0, V.ref e1, V.ref e2, V.ref X] ++ [V.ref X2])) X2 = some (.lst (fIdx false m)) := by rw [upd_ne X2u]; exact hXX
    generalize upd H9 du (.lst ([V.ref e0, V.ref e1, V.ref e2, V.ref X] ++ [V.ref X2])) = G9 at sG9 hdu9 hX9 hX29
    have s29 : Same H2 G9 := s3.trans (s36.trans sG9)
    refine ⟨by show 0 ≤ sizeLine; decide, fun Z0 nZ0 => ?_⟩
    have sZ := same_upd nZ0 (o := .lst [])
    refine ⟨.ref am, rfl, am, _, _, _, rfl, rfl, Same.seqT (s29.trans sZ) h1, rfl, r, rfl, ⟨xs, (s29.trans sZ).seq h3⟩, ?_⟩
    refine for_it (walk_list (xs := xs)) (fun i σ G => Same G9 G ∧ ∃ (x4 : Option V) (Z : Addr), σ = [some (.ref a), some (.ref d), some (.ref am), some (.str kept), x4, some (.ref D), some (.ref du), some (.ref Z), none, none, none, none, none, none] ∧ Z ≠ du ∧ G Z = some (.lst ((m.ls.take i).flatMap fun l => l.heads.map vH)))
      ⟨sZ, none, Z0, rfl, (fun z => by rw [z, hdu9] at nZ0; cases nZ0), upd_same⟩ (fun i σ G _ p => (s29.trans p.1).seq h3) (fun i x σ G G' hi p y => ?_) (fun σ G p => ?_)
    · obtain ⟨sm, x4, Z, rfl, Zu, hZ⟩ := p
      obtain ⟨rfl, hx⟩ := y
      obtain ⟨l, hl, rl⟩ := h4.get hx
      have vl := vm.ok l (mem_at hl)
      have tk : (m.ls.take (i + 1)).flatMap (fun l => l.heads.map vH) = (m.ls.take i).flatMap (fun l => l.heads.map vH) ++ l.heads.map vH := by rw [take_snoc hl, List.flatMap_append, List.flatMap_singleton]
      have s2G := s29.trans sm
      obtain ⟨b, p, rfl, ⟨zs, hz, hT⟩, ⟨ex, hb⟩ | ⟨ex, hb⟩⟩ := rl
      · refine ⟨_, rfl, b, _, _, _, rfl, rfl, Same.seqT s2G hb, rfl, rfl, _, rfl, iteF ⟨sm, _, Z, rfl, Zu, ?_⟩⟩
        rw [tk, hZ]
        unfold Lw.heads
        rw [ex]
        simp
      · refine ⟨_, rfl, b, _, _, _, rfl, rfl, Same.seqT s2G hb, rfl, rfl, _, rfl, iteT ?_⟩
        refine ⟨.ref Z, rfl, .ref b, rfl, b, _, _, _, rfl, rfl, Same.seqT s2G hb, rfl, p, rfl, ⟨zs, s2G.seq hz⟩, fun D3 nD3 => ?_⟩
        refine lc_fm (walk_list (xs := zs)) l.ts (fun t => some t.h) (fun _ v b => v = vH b) (fun _ _ _ _ _ z => z) hT.len.symm nD3 (fun H' s => s.seq (s2G.seq hz)) (small' (by have := hT.len; have := vl.many; omega)) (fun i x H' Hx ys t ht sm3 hD y Qt Qf qt qf => ?_) (fun H' ys sm3 hD3 hR => ?_)
        · obtain ⟨rfl, hx⟩ := y
          obtain ⟨t', ht', rt⟩ := hT.get hx
          obtain rfl := Option.some.inj (ht.symm.trans ht')
          obtain ⟨c, rfl, rc⟩ := rt.same (s2G.trans sm3)
          exact ⟨rfl, _, rfl, c, _, _, _, rfl, rfl, rc, rfl, qt _ _ _ rfl (Same.refl _) rfl⟩
        · have e := a2_eq hR
          rw [fm_id] at e
          subst e
          have a1 : ((m.ls.take i).flatMap fun l => l.heads.map vH).length ≤ 130 * (m.ls.take i).length := sizes_len fun l hl => (vm.ok l (List.mem_of_mem_take hl)).many
          have a2 : (m.ls.take i).length ≤ 40 := Nat.le_trans (by rw [List.length_take]; exact Nat.min_le_right _ _) vm.ls
          refine ⟨Z, D3, _, _, rfl, rfl, sm3 _ _ hZ, hD3, small (by rw [List.length_map, List.length_map]; have := vl.many; omega), fun Z2 nZ2 => ?_⟩
          have sAll := (sm.trans sm3).trans (same_upd nZ2 (o := .lst ((m.ls.take i).flatMap (fun l => l.heads.map vH) ++ (l.ts.map (·.h)).map vH)))
          refine ⟨sAll, _, Z2, rfl, (fun z => by have := (sm.trans sm3) _ _ hdu9; rw [← z, nZ2] at this; cases this), ?_⟩
          rw [tk]
          unfold Lw.heads
          rw [ex]
          exact upd_same
    obtain ⟨sm, x4, Z, rfl, Zu, hZ⟩ := p
    rw [List.take_of_length_le (by rw [lx]; exact Nat.le_refl _)] at hZ
    have hduG := sm _ _ hdu9
    refine ⟨.ref du, rfl, .inl ⟨rfl, _, .of hduG⟩, .ref Z, rfl, du, _, _, rfl, rfl, hduG, by show 5 < sizeLine; decide, ?_⟩
    have sD : Same H6 (upd G du (.lst ([V.ref e0, V.ref e1, V.ref e2, V.ref X, V.ref X2] ++ [V.ref Z]))) := same_over (sG9.trans sm) nu
    have six : Six (upd G du (.lst ([V.ref e0, V.ref e1, V.ref e2, V.ref X, V.ref X2] ++ [V.ref Z]))) du m e0 e1 e2 X X2 Z := by
      have s4D := s5.trans (s6.trans sD)
      obtain ⟨r1, b1, c1⟩ := t1
      have s5D := s6.trans sD
      exact ⟨upd_same, ⟨rs0, s4D _ _ b0, c0.mono fun _ _ z => s4D _ _ z⟩, ⟨r1, s5D _ _ b1, c1.mono fun _ _ ⟨es, z1, z2⟩ => ⟨es, s5D _ _ z1, z2.mono fun _ _ z => s5D _ _ z⟩⟩, ⟨rs2, sD _ _ b2, c2.mono fun _ _ z => sD _ _ z⟩,
        by rw [upd_ne Xu]; exact sm _ _ hX9, by rw [upd_ne X2u]; exact sm _ _ hX29, by rw [upd_ne Zu]; exact hZ⟩
    have s2D : Same H2 (upd G du (.lst ([V.ref e0, V.ref e1, V.ref e2, V.ref X, V.ref X2] ++ [V.ref Z]))) := s3.trans (s36.trans sD)
    generalize upd G du (.lst ([V.ref e0, V.ref e1, V.ref e2, V.ref X, V.ref X2] ++ [V.ref Z])) = Hd at six s2D
    refine ⟨.ref am, rfl, .ref am, m, rfl, hm.same s2D, vm, fun Ht p tops ra rb rc sT told => ?_⟩
    obtain ⟨f0, f1, f2, f3, f4, f5, rfl, sixT⟩ := told.six
    have eq1 : PyData.eqv (dTold m) (dTold m) = true := SeqAt.eqv_refl _ (SeqAt.canLay_of_shaped (shaped_told vm))
    refine ⟨.ref p, rfl, .ref du, rfl, dTold m, dTold m, sixT.dp vm, (six.same sT).dp vm, shaped_told vm, shaped_told vm, _, rfl, ?_⟩
    rw [eq1]
    refine iteF ?_
    have hp := told.at_
    refine ⟨.ref p, rfl, p, rfl, ⟨_, .of hp⟩, fun D4 nD4 => ?_⟩
    have tl : ∀ f ∈ [f0, f1, f2, f3, f4, f5], ∃ ys, Ht f = some (.lst ys) := fun f hf => by
      obtain ⟨_, ⟨_, w0, _⟩, ⟨_, w1, _⟩, ⟨_, w2, _⟩, w3, w4, w5⟩ := sixT
      simp only [List.mem_cons, List.not_mem_nil, or_false] at hf
      rcases hf with rfl | rfl | rfl | rfl | rfl | rfl
      · exact ⟨_, w0⟩
      · exact ⟨_, w1⟩
      · exact ⟨_, w2⟩
      · exact ⟨_, w3⟩
      · exact ⟨_, w4⟩
      · exact ⟨_, w5⟩
    refine lc_fm (walk_list (xs := [f0, f1, f2, f3, f4, f5].map V.ref)) [f0, f1, f2, f3, f4, f5] (fun f => some f) (fun _ v _ => v = V.bl true) (fun _ _ _ _ _ z => z) rfl nD4 (fun H' s => s.seq (.of hp)) (show 6 < sizeLine by decide) (fun i x H' Hx ys f hf sm hD y Qt Qf qt qf => ?_) (fun H10 ys s10 hD4 hR => ?_)
    · obtain ⟨rfl, hx⟩ := y
      obtain ⟨zs, hz⟩ := tl f (mem_at hf)
      rw [List.getElem?_map, hf] at hx
      obtain rfl := Option.some.inj hx
      exact ⟨rfl, _, rfl, _, _, _, _, true, rfl, .ty _, .base (.lst (sm _ _ hz)), kit_ty (by decide +kernel), qt _ _ f rfl (Same.refl _) rfl⟩
    have eb := bls_true (n := 6) hR (by rw [List.filterMap_some]; rfl)
    subst eb
    refine ⟨D4, List.replicate 6 true, rfl, .of hD4, _, rfl, ?_⟩
    rw [all_rep]
    refine iteF ?_
    have s2t : Same H2 H10 := s2D.trans (sT.trans s10)
    refine ⟨.ref am, rfl, am, dMd m, rfl, dpm _ s2t, g.sh, gd0, Nat.le_trans g.dep (by decide), Nat.le_trans g.len (by decide), _, rfl, rfl, _, rfl, ?_⟩
    rw [hkept, show (!decide (V.str kept = V.str kept)) = false by rw [decide_eq_true rfl]; rfl]
    refine iteF ?_
    -- what was told is changed
    have M0 := (told.mut vm sT).same' s10
    have tn := told.rn
    have tw := told.new
    have tpn := told.pn
    have inj := told.inj
    have r10 := told.r10
    have r12 := told.r12
    have ra40 : ra.length ≤ 40 := by rw [told.a0.len]; unfold fPow; rw [List.length_map]; exact l40
    have rb40 : rb.length ≤ 40 := by rw [told.a1.len]; unfold fTab; exact Nat.le_trans (List.length_filterMap_le _ _) l40
    have rc40 : rc.length ≤ 40 := by rw [told.a2.len]; unfold fMeet; exact Nat.le_trans (List.length_filterMap_le _ _) l40
    refine ⟨.ref p, rfl, _, rfl, p, _, rfl, .of M0.tp, fun S nS => ?_⟩
    rw [show cutV ([f0, f1, f2, f3, f4, f5].map V.ref) none (some 3) = [V.ref f0, V.ref f1, V.ref f2] from cut3 (L := 3) (show 3 ≤ 6 by decide)]
    have sS := same_upd nS (o := .lst [V.ref f0, V.ref f1, V.ref f2])
    have M1 := M0.same' sS
    have Sn : ∀ (x : Addr) (o : HO), H10 x = some o → x ≠ S := fun x o h z => by rw [z, nS] at h; cases h
    refine ⟨S, rfl, ⟨_, .of upd_same⟩, ?_⟩
    have M1' : Mut Hd (upd H10 S (.lst [V.ref f0, V.ref f1, V.ref f2])) p [f0, f1, f2, f3, f4, f5] ra rb rc (6000 + 50 * 0) (if 0 ≤ 1 then 0 else rb.length) := M1
    have hS0 : upd H10 S (.lst [V.ref f0, V.ref f1, V.ref f2]) S = some (.lst [V.ref f0, V.ref f1, V.ref f2]) := upd_same
    refine for_it (walk_list (xs := [V.ref f0, V.ref f1, V.ref f2])) (fun i σ G => ∃ x9 x10 : Option V, σ = [some (.ref a), some (.ref d), some (.ref am), some (.str kept), x4, some (.ref D), some (.ref du), some (.ref Z), some (.ref p), x9, x10, none, none, none] ∧ G S = some (.lst [V.ref f0, V.ref f1, V.ref f2]) ∧ Mut Hd G p [f0, f1, f2, f3, f4, f5] ra rb rc (6000 + 50 * i) (if i ≤ 1 then 0 else rb.length))
      ⟨none, none, rfl, hS0, M1'⟩ (fun i σ G _ pv => ?_) (fun i x σ G G' hi pv y => ?_) (fun σ G pv => ?_)
    · obtain ⟨_, _, _, hS, _⟩ := pv
      exact .of hS
    · obtain ⟨x9, x10, rfl, hS, M⟩ := pv
      obtain ⟨rfl, hx⟩ := y
      have hi3 : i < 3 := hi
      rcases (show i = 0 ∨ i = 1 ∨ i = 2 by omega) with rfl | rfl | rfl
      · obtain rfl := Option.some.inj hx
        have M : Mut Hd G' p [f0, f1, f2, f3, f4, f5] ra rb rc (6000 + 0) 0 := M
        refine ⟨_, rfl, ?_⟩
        refine ⟨f0, rfl, ⟨_, .of M.t0⟩, ?_⟩
        refine for_it (walk_list (xs := ra.map V.ref)) (fun j σ G => ∃ x10 : Option V, σ = [some (.ref a), some (.ref d), some (.ref am), some (.str kept), x4, some (.ref D), some (.ref du), some (.ref Z), some (.ref p), some (.ref f0), x10, none, none, none] ∧ G S = some (.lst [V.ref f0, V.ref f1, V.ref f2]) ∧ Mut Hd G p [f0, f1, f2, f3, f4, f5] ra rb rc (6000 + j) 0)
          ⟨_, rfl, hS, M⟩ (fun j σ G _ pv => ?_) (fun j x σ G G' hj pv y => ?_) (fun σ G pv => ?_)
        · obtain ⟨_, _, _, M⟩ := pv
          exact .of M.t0
        · obtain ⟨x10, rfl, hS, M⟩ := pv
          obtain ⟨rfl, hx⟩ := y
          obtain ⟨r, hr, rfl⟩ := ref_at hx
          obtain ⟨o, ho⟩ : ∃ o, H10 r = some o := let ⟨ys, h, _⟩ := M0.l0 r (mem_at hr); ⟨_, h⟩
          obtain ⟨ys, hy, hl⟩ := M.l0 r (mem_at hr)
          have rS := Sn r o ho
          refine ⟨.ref r, rfl, .inl ⟨rfl, _, .of hy⟩, r, _, _, rfl, rfl, hy, small' (by rw [List.length_map] at hj; omega), _, rfl, by rw [upd_ne rS.symm]; exact hS, ?_⟩
          exact M.putE rfl hy hl (tn r (.inl (mem_at hr))).1 (tn r (.inl (mem_at hr))).2 (fun z => r10 r z (mem_at hr))
        · obtain ⟨x10, rfl, hS, M⟩ := pv
          rw [List.length_map] at M
          exact ⟨_, _, rfl, hS, M.up (by omega)⟩
      · obtain rfl := Option.some.inj hx
        have M : Mut Hd G' p [f0, f1, f2, f3, f4, f5] ra rb rc (6050 + 0) 0 := M
        refine ⟨_, rfl, ?_⟩
        refine ⟨f1, rfl, ⟨_, .of M.t1⟩, ?_⟩
        refine for_it (walk_list (xs := rb.map V.ref)) (fun j σ G => ∃ x10 : Option V, σ = [some (.ref a), some (.ref d), some (.ref am), some (.str kept), x4, some (.ref D), some (.ref du), some (.ref Z), some (.ref p), some (.ref f1), x10, none, none, none] ∧ G S = some (.lst [V.ref f0, V.ref f1, V.ref f2]) ∧ Mut Hd G p [f0, f1, f2, f3, f4, f5] ra rb rc (6050 + j) j)
          ⟨_, rfl, hS, M⟩ (fun j σ G _ pv => ?_) (fun j x σ G G' hj pv y => ?_) (fun σ G pv => ?_)
        · obtain ⟨_, _, _, M⟩ := pv
          exact .of M.t1
        · obtain ⟨x10, rfl, hS, M⟩ := pv
          obtain ⟨rfl, hx⟩ := y
          obtain ⟨r, hr, rfl⟩ := ref_at hx
          obtain ⟨es0, _, ho, _⟩ := M0.r1 j r hr
          obtain ⟨es, h30, hy, _⟩ := M.r1 j r hr
          rw [if_neg (Nat.lt_irrefl _), List.append_nil] at hy
          have rS := Sn r _ ho
          refine ⟨.ref r, rfl, .inl ⟨rfl, _, .of hy⟩, r, _, _, rfl, rfl, hy, small' (by rw [List.length_map]; omega), _, rfl, by rw [upd_ne rS.symm]; exact hS, ?_⟩
          exact M.putR rfl hr inj (tn r (.inr (.inl (mem_at hr)))).1 (tn r (.inr (.inl (mem_at hr)))).2 (by omega) hy h30
        · obtain ⟨x10, rfl, hS, M⟩ := pv
          rw [List.length_map] at M
          exact ⟨_, _, rfl, hS, M.up (by omega)⟩
      · obtain rfl := Option.some.inj hx
        have M : Mut Hd G' p [f0, f1, f2, f3, f4, f5] ra rb rc (6100 + 0) rb.length := M
        refine ⟨_, rfl, ?_⟩
        refine ⟨f2, rfl, ⟨_, .of M.t2⟩, ?_⟩
        refine for_it (walk_list (xs := rc.map V.ref)) (fun j σ G => ∃ x10 : Option V, σ = [some (.ref a), some (.ref d), some (.ref am), some (.str kept), x4, some (.ref D), some (.ref du), some (.ref Z), some (.ref p), some (.ref f2), x10, none, none, none] ∧ G S = some (.lst [V.ref f0, V.ref f1, V.ref f2]) ∧ Mut Hd G p [f0, f1, f2, f3, f4, f5] ra rb rc (6100 + j) rb.length)
          ⟨_, rfl, hS, M⟩ (fun j σ G _ pv => ?_) (fun j x σ G G' hj pv y => ?_) (fun σ G pv => ?_)
        · obtain ⟨_, _, _, M⟩ := pv
          exact .of M.t2
        · obtain ⟨x10, rfl, hS, M⟩ := pv
          obtain ⟨rfl, hx⟩ := y
          obtain ⟨r, hr, rfl⟩ := ref_at hx
          obtain ⟨o, ho⟩ : ∃ o, H10 r = some o := let ⟨ys, h, _⟩ := M0.l2 r (mem_at hr); ⟨_, h⟩
          obtain ⟨ys, hy, hl⟩ := M.l2 r (mem_at hr)
          have rS := Sn r o ho
          refine ⟨.ref r, rfl, .inl ⟨rfl, _, .of hy⟩, r, _, _, rfl, rfl, hy, small' (by rw [List.length_map] at hj; omega), _, rfl, by rw [upd_ne rS.symm]; exact hS, ?_⟩
          exact M.putE rfl hy hl (tn r (.inr <| .inr <| (mem_at hr))).1 (tn r (.inr <| .inr <| (mem_at hr))).2 (fun z => r12 r (mem_at hr) z)
        · obtain ⟨x10, rfl, hS, M⟩ := pv
          rw [List.length_map] at M
          exact ⟨_, _, rfl, hS, M.up (by omega)⟩
    obtain ⟨x9, x10, rfl, _, M⟩ := pv
    have M : Mut Hd G p [f0, f1, f2, f3, f4, f5] ra rb rc (6200 + 40 * 0) rb.length := M.up (by show 6000 + 50 * 3 ≤ 6200; decide)
    refine ⟨.ref p, rfl, p, _, _, _, rfl, rfl, .of M.tp, rfl, f1, rfl, ⟨_, .of M.t1⟩, ?_⟩
    refine for_it (walk_list (xs := rb.map V.ref)) (fun i σ G => ∃ x9 x10 x11 : Option V, σ = [some (.ref a), some (.ref d), some (.ref am), some (.str kept), x4, some (.ref D), some (.ref du), some (.ref Z), some (.ref p), x9, x10, x11, none, none] ∧ Mut Hd G p [f0, f1, f2, f3, f4, f5] ra rb rc (6200 + 40 * i) rb.length)
      ⟨_, _, _, rfl, M⟩ (fun i σ G _ pv => ?_) (fun i x σ G G' hi pv y => ?_) (fun σ G pv => ?_)
    · obtain ⟨_, _, _, _, M⟩ := pv
      exact .of M.t1
    · obtain ⟨x9, x10, x11, rfl, M⟩ := pv
      obtain ⟨rfl, hx⟩ := y
      obtain ⟨r, hr, rfl⟩ := ref_at hx
      rw [List.length_map] at hi
      obtain ⟨es, h30, hy, hes⟩ := M.r1 i r hr
      rw [if_pos hi] at hy
      refine ⟨.ref r, rfl, .ref r, rfl, r, _, rfl, .inl (.of hy), _, _, rfl, rfl, _, rfl, r, _, rfl, .of hy, fun S2 nS2 => ?_⟩
      have ecut : cutV (es.map V.ref ++ [V.int 77]) none (some (((es.map V.ref ++ [V.int 77]).length : Int) - 1)) = es.map V.ref := by
        have e1 : (((es.map V.ref ++ [V.int 77]).length : Int) - 1) = ((es.map V.ref).length : Nat) := by rw [List.length_append]; show (((es.map V.ref).length + 1 : Nat) : Int) - 1 = _; omega
        rw [e1, cut3 (by rw [List.length_append]; exact Nat.le_add_right _ _), List.take_left']
        rfl
      rw [ecut]
      refine ⟨S2, rfl, ⟨_, .of upd_same⟩, ?_⟩
      refine for_it (walk_list (xs := es.map V.ref)) (fun j σ G => ∃ x11 : Option V, σ = [some (.ref a), some (.ref d), some (.ref am), some (.str kept), x4, some (.ref D), some (.ref du), some (.ref Z), some (.ref p), x9, some (.ref r), x11, none, none] ∧ G S2 = some (.lst (es.map V.ref)) ∧ G r = some (.lst (es.map V.ref ++ [V.int 77])) ∧ Mut Hd G p [f0, f1, f2, f3, f4, f5] ra rb rc (6200 + 40 * i + j) rb.length)
        ⟨_, rfl, upd_same, same_upd nS2 _ _ hy, M.same' (same_upd nS2)⟩ (fun j σ G _ pv => ?_) (fun j x σ G G2 hj pv y => ?_) (fun σ G pv => ?_)
      · obtain ⟨_, _, h, _⟩ := pv
        exact .of h
      · obtain ⟨x11, rfl, hS2, hr2, M2⟩ := pv
        obtain ⟨rfl, hx⟩ := y
        obtain ⟨e, he, rfl⟩ := ref_at hx
        obtain ⟨g1, g2, g3, ⟨zs0, hz0, _⟩⟩ := hes e (mem_at he)
        obtain ⟨es', _, hy', hes'⟩ := M2.r1 i r hr
        rw [if_pos hi] at hy'
        have ee : es'.map V.ref = es.map V.ref := by
          have := hy'.symm.trans hr2
          injection this with this
          injection this with this
          exact List.append_cancel_right this
        have em : e ∈ es' := by
          have : V.ref e ∈ es'.map V.ref := by rw [ee]; exact List.mem_map_of_mem (mem_at he)
          obtain ⟨e', h1, h2⟩ := List.mem_map.mp this
          injection h2 with h2
          exact h2 ▸ h1
        obtain ⟨_, _, _, zs, hz, hzl⟩ := hes' e em
        have eS : e ≠ S2 := fun z => by rw [z, nS2] at hz0; cases hz0
        have er : e ≠ r := fun z => g3 (z ▸ mem_at hr)
        refine ⟨.ref e, rfl, .inl ⟨rfl, _, .of hz⟩, e, _, _, rfl, rfl, hz, small' (by rw [List.length_map] at hj; omega), _, rfl, by rw [upd_ne eS.symm]; exact hS2, by rw [upd_ne er.symm]; exact hr2, ?_⟩
        exact M2.putE rfl hz hzl g1 g2 g3
      · obtain ⟨x11, rfl, _, _, M2⟩ := pv
        rw [List.length_map] at M2
        exact ⟨_, _, _, rfl, M2.up (by omega)⟩
    obtain ⟨x9, x10, x11, rfl, M⟩ := pv
    rw [List.length_map] at M
    have M := M.up (show 6200 + 40 * rb.length ≤ 10000 by omega)
    have al : ∀ f ∈ [f0, f1, f2, f3, f4, f5], AL G f (10000 + 0) := fun f hf => by
      simp only [List.mem_cons, List.not_mem_nil, or_false] at hf
      rcases hf with rfl | rfl | rfl | rfl | rfl | rfl
      · exact ⟨_, M.t0, by rw [List.length_map]; omega⟩
      · exact ⟨_, M.t1, by rw [List.length_map]; omega⟩
      · exact ⟨_, M.t2, by rw [List.length_map]; omega⟩
      · exact M.l3 3 (by decide) (by decide)
      · exact M.l3 4 (by decide) (by decide)
      · exact M.l3 5 (by decide) (by decide)
    refine ⟨.ref p, rfl, p, rfl, ⟨_, .of M.tp⟩, ?_⟩
    refine for_it (walk_list (xs := [f0, f1, f2, f3, f4, f5].map V.ref)) (fun i σ G => ∃ x9 : Option V, σ = [some (.ref a), some (.ref d), some (.ref am), some (.str kept), x4, some (.ref D), some (.ref du), some (.ref Z), some (.ref p), x9, x10, x11, none, none] ∧ Same Hd G ∧ G p = some (.lst ([f0, f1, f2, f3, f4, f5].map V.ref)) ∧ ∀ f ∈ [f0, f1, f2, f3, f4, f5], AL G f (10000 + i))
      ⟨_, rfl, M.same, M.tp, al⟩ (fun i σ G _ pv => ?_) (fun i x σ G G' hi pv y => ?_) (fun σ G pv => ?_)
    · obtain ⟨_, _, _, h, _⟩ := pv
      exact .of h
    · obtain ⟨x9, rfl, sG, hpG, al⟩ := pv
      obtain ⟨rfl, hx⟩ := y
      obtain ⟨f, hf, rfl⟩ := ref_at hx
      have mf := mem_at hf
      obtain ⟨ys, hy, hl⟩ := al f mf
      have pf : p ≠ f := fun z => tpn (z ▸ mf)
      have hi6 : i < 6 := hi
      refine ⟨.ref f, rfl, .inl ⟨rfl, _, .of hy⟩, f, _, _, rfl, rfl, hy, small' (by omega), _, rfl, same_put sG (tw f (List.mem_cons_of_mem _ mf)), by rw [upd_ne pf]; exact hpG, fun u hu => (al u hu).put hy hl⟩
    obtain ⟨x9, rfl, sG, _, _⟩ := pv
    have s2G := s2D.trans sG
    refine ⟨.ref am, rfl, .ref am, m, rfl, hm.same s2G, vm, fun He p' tops' ra' rb' rc' sE told' => ?_⟩
    obtain ⟨_, _, _, _, _, _, rfl, sixE⟩ := told'.six
    refine ⟨.ref du, rfl, dTold m, dTold m, sixE.dp vm, (six.same (sG.trans sE)).dp vm, shaped_told vm, shaped_told vm, _, rfl, ?_⟩
    rw [eq1]
    refine iteT ⟨.ref am, rfl, am, dMd m, rfl, dpm _ (s2G.trans sE), g.sh, gd0, Nat.le_trans g.dep (by decide), Nat.le_trans g.len (by decide), _, rfl, rfl, ?_⟩
    rw [hkept, show decide (V.str kept = V.str kept) = true from decide_eq_true rfl]
    exact q _
end
section
/-- the facts of the text, from what stands behind the top -/
theorem all_mk {l : PySem.W.OpenLaw} {w : World} {K : PySem.W.Frag} {h : Heap} {mg : Str → Option Value} {fa : Addr} (X : K.In h) (G : h.Ns mainGlobals mg) (hfa : mg "law" = some (.ref fa))
    {f0 : Addr} {od0 an0 : Option Addr} {sl0 : Array (Option Value)} {oc0 kV0 dc0 pm0 cd0 ct0 : Value}
    {f1 : Addr} {od1 an1 : Option Addr} {sl1 : Array (Option Value)} {oc1 kV1 dc1 pm1 cd1 ct1 : Value}
    {f2 : Addr} {od2 an2 : Option Addr} {sl2 : Array (Option Value)} {oc2 kV2 dc2 pm2 cd2 ct2 : Value}
    {f3 : Addr} {od3 an3 : Option Addr} {sl3 : Array (Option Value)} {oc3 kV3 dc3 pm3 cd3 ct3 : Value}
    {f4 : Addr} {od4 an4 : Option Addr} {sl4 : Array (Option Value)} {oc4 kV4 dc4 pm4 cd4 ct4 : Value}
    {f5 : Addr} {od5 an5 : Option Addr} {sl5 : Array (Option Value)} {oc5 kV5 dc5 pm5 cd5 ct5 : Value}
    {f6 : Addr} {od6 an6 : Option Addr} {sl6 : Array (Option Value)} {oc6 kV6 dc6 pm6 cd6 ct6 : Value}
    {f7 : Addr} {od7 an7 : Option Addr} {sl7 : Array (Option Value)} {oc7 kV7 dc7 pm7 cd7 ct7 : Value}
    {f8 : Addr} {od8 an8 : Option Addr} {sl8 : Array (Option Value)} {oc8 kV8 dc8 pm8 cd8 ct8 : Value}
    {f9 : Addr} {od9 an9 : Option Addr} {sl9 : Array (Option Value)} {oc9 kV9 dc9 pm9 cd9 ct9 : Value}
    {f10 : Addr} {od10 an10 : Option Addr} {sl10 : Array (Option Value)} {oc10 kV10 dc10 pm10 cd10 ct10 : Value}
    {f11 : Addr} {od11 an11 : Option Addr} {sl11 : Array (Option Value)} {oc11 kV11 dc11 pm11 cd11 ct11 : Value}
    {f12 : Addr} {od12 an12 : Option Addr} {sl12 : Array (Option Value)} {oc12 kV12 dc12 pm12 cd12 ct12 : Value}
    {f13 : Addr} {od13 an13 : Option Addr} {sl13 : Array (Option Value)} {oc13 kV13 dc13 pm13 cd13 ct13 : Value}
    {f14 : Addr} {od14 an14 : Option Addr} {sl14 : Array (Option Value)} {oc14 kV14 dc14 pm14 cd14 ct14 : Value}
    {f15 : Addr} {od15 an15 : Option Addr} {sl15 : Array (Option Value)} {oc15 kV15 dc15 pm15 cd15 ct15 : Value}
    {f16 : Addr} {od16 an16 : Option Addr} {sl16 : Array (Option Value)} {oc16 kV16 dc16 pm16 cd16 ct16 : Value}
    {f17 : Addr} {od17 an17 : Option Addr} {sl17 : Array (Option Value)} {oc17 kV17 dc17 pm17 cd17 ct17 : Value}
    {f18 : Addr} {od18 an18 : Option Addr} {sl18 : Array (Option Value)} {oc18 kV18 dc18 pm18 cd18 ct18 : Value}
    {f19 : Addr} {od19 an19 : Option Addr} {sl19 : Array (Option Value)} {oc19 kV19 dc19 pm19 cd19 ct19 : Value}
    {f20 : Addr} {od20 an20 : Option Addr} {sl20 : Array (Option Value)} {oc20 kV20 dc20 pm20 cd20 ct20 : Value}
    {f21 : Addr} {od21 an21 : Option Addr} {sl21 : Array (Option Value)} {oc21 kV21 dc21 pm21 cd21 ct21 : Value}
    {f22 : Addr} {od22 an22 : Option Addr} {sl22 : Array (Option Value)} {oc22 kV22 dc22 pm22 cd22 ct22 : Value}
    {f23 : Addr} {od23 an23 : Option Addr} {sl23 : Array (Option Value)} {oc23 kV23 dc23 pm23 cd23 ct23 : Value}
    {f24 : Addr} {od24 an24 : Option Addr} {sl24 : Array (Option Value)} {oc24 kV24 dc24 pm24 cd24 ct24 : Value}
    {f25 : Addr} {od25 an25 : Option Addr} {sl25 : Array (Option Value)} {oc25 kV25 dc25 pm25 cd25 ct25 : Value}
    (a0 : PySem.W.nsIn K mainGlobals "is_exact" = some (some (.ref f0))) (l0 : K.lookup f0 = some ⟨oc0, od0, .func (PySem.W.fnOf "is_exact" "is_exact" (defArgs s_is_exact) (defBody s_is_exact) (defScope s_is_exact) .none kV0 dc0 pm0 an0 cd0 ct0), sl0⟩) (c0 : PySem.W.codeIn K cd0 "is_exact" = true) (k0 : PySem.W.keepIn K (.ref f0) = true)
    (a1 : PySem.W.nsIn K mainGlobals "terms_of" = some (some (.ref f1))) (l1 : K.lookup f1 = some ⟨oc1, od1, .func (PySem.W.fnOf "terms_of" "terms_of" (defArgs s_terms_of) (defBody s_terms_of) (defScope s_terms_of) .none kV1 dc1 pm1 an1 cd1 ct1), sl1⟩) (c1 : PySem.W.codeIn K cd1 "terms_of" = true) (k1 : PySem.W.keepIn K (.ref f1) = true)
    (a2 : PySem.W.nsIn K mainGlobals "sizes_in" = some (some (.ref f2))) (l2 : K.lookup f2 = some ⟨oc2, od2, .func (PySem.W.fnOf "sizes_in" "sizes_in" (defArgs s_sizes_in) (defBody s_sizes_in) (defScope s_sizes_in) .none kV2 dc2 pm2 an2 cd2 ct2), sl2⟩) (c2 : PySem.W.codeIn K cd2 "sizes_in" = true) (k2 : PySem.W.keepIn K (.ref f2) = true)
    (a3 : PySem.W.nsIn K mainGlobals "places_of" = some (some (.ref f3))) (l3 : K.lookup f3 = some ⟨oc3, od3, .func (PySem.W.fnOf "places_of" "places_of" (defArgs s_places_of) (defBody s_places_of) (defScope s_places_of) .none kV3 dc3 pm3 an3 cd3 ct3), sl3⟩) (c3 : PySem.W.codeIn K cd3 "places_of" = true) (k3 : PySem.W.keepIn K (.ref f3) = true)
    (a4 : PySem.W.nsIn K mainGlobals "_powers_in" = some (some (.ref f4))) (l4 : K.lookup f4 = some ⟨oc4, od4, .func (PySem.W.fnOf "_powers_in" "_powers_in" (defArgs s_powers_in) (defBody s_powers_in) (defScope s_powers_in) .none kV4 dc4 pm4 an4 cd4 ct4), sl4⟩) (c4 : PySem.W.codeIn K cd4 "_powers_in" = true) (k4 : PySem.W.keepIn K (.ref f4) = true)
    (a5 : PySem.W.nsIn K mainGlobals "powers" = some (some (.ref f5))) (l5 : K.lookup f5 = some ⟨oc5, od5, .func (PySem.W.fnOf "powers" "powers" (defArgs s_powers) (defBody s_powers) (defScope s_powers) .none kV5 dc5 pm5 an5 cd5 ct5), sl5⟩) (c5 : PySem.W.codeIn K cd5 "powers" = true) (k5 : PySem.W.keepIn K (.ref f5) = true)
    (a6 : PySem.W.nsIn K mainGlobals "_exact_row" = some (some (.ref f6))) (l6 : K.lookup f6 = some ⟨oc6, od6, .func (PySem.W.fnOf "_exact_row" "_exact_row" (defArgs s_exact_row) (defBody s_exact_row) (defScope s_exact_row) .none kV6 dc6 pm6 an6 cd6 ct6), sl6⟩) (c6 : PySem.W.codeIn K cd6 "_exact_row" = true) (k6 : PySem.W.keepIn K (.ref f6) = true)
    (a7 : PySem.W.nsIn K mainGlobals "exact_table" = some (some (.ref f7))) (l7 : K.lookup f7 = some ⟨oc7, od7, .func (PySem.W.fnOf "exact_table" "exact_table" (defArgs s_exact_table) (defBody s_exact_table) (defScope s_exact_table) .none kV7 dc7 pm7 an7 cd7 ct7), sl7⟩) (c7 : PySem.W.codeIn K cd7 "exact_table" = true) (k7 : PySem.W.keepIn K (.ref f7) = true)
    (a8 : PySem.W.nsIn K mainGlobals "meetings" = some (some (.ref f8))) (l8 : K.lookup f8 = some ⟨oc8, od8, .func (PySem.W.fnOf "meetings" "meetings" (defArgs s_meetings) (defBody s_meetings) (defScope s_meetings) .none kV8 dc8 pm8 an8 cd8 ct8), sl8⟩) (c8 : PySem.W.codeIn K cd8 "meetings" = true) (k8 : PySem.W.keepIn K (.ref f8) = true)
    (a9 : PySem.W.nsIn K mainGlobals "exact_laws" = some (some (.ref f9))) (l9 : K.lookup f9 = some ⟨oc9, od9, .func (PySem.W.fnOf "exact_laws" "exact_laws" (defArgs s_exact_laws) (defBody s_exact_laws) (defScope s_exact_laws) .none kV9 dc9 pm9 an9 cd9 ct9), sl9⟩) (c9 : PySem.W.codeIn K cd9 "exact_laws" = true) (k9 : PySem.W.keepIn K (.ref f9) = true)
    (a10 : PySem.W.nsIn K mainGlobals "sized_laws" = some (some (.ref f10))) (l10 : K.lookup f10 = some ⟨oc10, od10, .func (PySem.W.fnOf "sized_laws" "sized_laws" (defArgs s_sized_laws) (defBody s_sized_laws) (defScope s_sized_laws) .none kV10 dc10 pm10 an10 cd10 ct10), sl10⟩) (c10 : PySem.W.codeIn K cd10 "sized_laws" = true) (k10 : PySem.W.keepIn K (.ref f10) = true)
    (a11 : PySem.W.nsIn K mainGlobals "sizes_of" = some (some (.ref f11))) (l11 : K.lookup f11 = some ⟨oc11, od11, .func (PySem.W.fnOf "sizes_of" "sizes_of" (defArgs s_sizes_of) (defBody s_sizes_of) (defScope s_sizes_of) .none kV11 dc11 pm11 an11 cd11 ct11), sl11⟩) (c11 : PySem.W.codeIn K cd11 "sizes_of" = true) (k11 : PySem.W.keepIn K (.ref f11) = true)
    (a12 : PySem.W.nsIn K mainGlobals "_law_draws" = some (some (.ref f12))) (l12 : K.lookup f12 = some ⟨oc12, od12, .func (PySem.W.fnOf "_law_draws" "_law_draws" (defArgs s_law_draws) (defBody s_law_draws) (defScope s_law_draws) .none kV12 dc12 pm12 an12 cd12 ct12), sl12⟩) (c12 : PySem.W.codeIn K cd12 "_law_draws" = true) (k12 : PySem.W.keepIn K (.ref f12) = true)
    (a13 : PySem.W.nsIn K mainGlobals "_law_at" = some (some (.ref f13))) (l13 : K.lookup f13 = some ⟨oc13, od13, .func (PySem.W.fnOf "_law_at" "_law_at" (defArgs s_law_at) (defBody s_law_at) (defScope s_law_at) .none kV13 dc13 pm13 an13 cd13 ct13), sl13⟩) (c13 : PySem.W.codeIn K cd13 "_law_at" = true) (k13 : PySem.W.keepIn K (.ref f13) = true)
    (a14 : PySem.W.nsIn K mainGlobals "_law_name" = some (some (.ref f14))) (l14 : K.lookup f14 = some ⟨oc14, od14, .func (PySem.W.fnOf "_law_name" "_law_name" (defArgs s_law_name) (defBody s_law_name) (defScope s_law_name) .none kV14 dc14 pm14 an14 cd14 ct14), sl14⟩) (c14 : PySem.W.codeIn K cd14 "_law_name" = true) (k14 : PySem.W.keepIn K (.ref f14) = true)
    (a15 : PySem.W.nsIn K mainGlobals "_law_quantities" = some (some (.ref f15))) (l15 : K.lookup f15 = some ⟨oc15, od15, .func (PySem.W.fnOf "_law_quantities" "_law_quantities" (defArgs s_law_quantities) (defBody s_law_quantities) (defScope s_law_quantities) .none kV15 dc15 pm15 an15 cd15 ct15), sl15⟩) (c15 : PySem.W.codeIn K cd15 "_law_quantities" = true) (k15 : PySem.W.keepIn K (.ref f15) = true)
    (a16 : PySem.W.nsIn K mainGlobals "_law_places" = some (some (.ref f16))) (l16 : K.lookup f16 = some ⟨oc16, od16, .func (PySem.W.fnOf "_law_places" "_law_places" (defArgs s_law_places) (defBody s_law_places) (defScope s_law_places) .none kV16 dc16 pm16 an16 cd16 ct16), sl16⟩) (c16 : PySem.W.codeIn K cd16 "_law_places" = true) (k16 : PySem.W.keepIn K (.ref f16) = true)
    (a17 : PySem.W.nsIn K mainGlobals "_law_one" = some (some (.ref f17))) (l17 : K.lookup f17 = some ⟨oc17, od17, .func (PySem.W.fnOf "_law_one" "_law_one" (defArgs s_law_one) (defBody s_law_one) (defScope s_law_one) .none kV17 dc17 pm17 an17 cd17 ct17), sl17⟩) (c17 : PySem.W.codeIn K cd17 "_law_one" = true) (k17 : PySem.W.keepIn K (.ref f17) = true)
    (a18 : PySem.W.nsIn K mainGlobals "_law_long" = some (some (.ref f18))) (l18 : K.lookup f18 = some ⟨oc18, od18, .func (PySem.W.fnOf "_law_long" "_law_long" (defArgs s_law_long) (defBody s_law_long) (defScope s_law_long) .none kV18 dc18 pm18 an18 cd18 ct18), sl18⟩) (c18 : PySem.W.codeIn K cd18 "_law_long" = true) (k18 : PySem.W.keepIn K (.ref f18) = true)
    (a19 : PySem.W.nsIn K mainGlobals "_law_model" = some (some (.ref f19))) (l19 : K.lookup f19 = some ⟨oc19, od19, .func (PySem.W.fnOf "_law_model" "_law_model" (defArgs s_law_model) (defBody s_law_model) (defScope s_law_model) .none kV19 dc19 pm19 an19 cd19 ct19), sl19⟩) (c19 : PySem.W.codeIn K cd19 "_law_model" = true) (k19 : PySem.W.keepIn K (.ref f19) = true)
    (a20 : PySem.W.nsIn K mainGlobals "_law_places_of" = some (some (.ref f20))) (l20 : K.lookup f20 = some ⟨oc20, od20, .func (PySem.W.fnOf "_law_places_of" "_law_places_of" (defArgs s_law_places_of) (defBody s_law_places_of) (defScope s_law_places_of) .none kV20 dc20 pm20 an20 cd20 ct20), sl20⟩) (c20 : PySem.W.codeIn K cd20 "_law_places_of" = true) (k20 : PySem.W.keepIn K (.ref f20) = true)
    (a21 : PySem.W.nsIn K mainGlobals "_law_powers" = some (some (.ref f21))) (l21 : K.lookup f21 = some ⟨oc21, od21, .func (PySem.W.fnOf "_law_powers" "_law_powers" (defArgs s_law_powers) (defBody s_law_powers) (defScope s_law_powers) .none kV21 dc21 pm21 an21 cd21 ct21), sl21⟩) (c21 : PySem.W.codeIn K cd21 "_law_powers" = true) (k21 : PySem.W.keepIn K (.ref f21) = true)
    (a22 : PySem.W.nsIn K mainGlobals "_law_table" = some (some (.ref f22))) (l22 : K.lookup f22 = some ⟨oc22, od22, .func (PySem.W.fnOf "_law_table" "_law_table" (defArgs s_law_table) (defBody s_law_table) (defScope s_law_table) .none kV22 dc22 pm22 an22 cd22 ct22), sl22⟩) (c22 : PySem.W.codeIn K cd22 "_law_table" = true) (k22 : PySem.W.keepIn K (.ref f22) = true)
    (a23 : PySem.W.nsIn K mainGlobals "_law_meetings" = some (some (.ref f23))) (l23 : K.lookup f23 = some ⟨oc23, od23, .func (PySem.W.fnOf "_law_meetings" "_law_meetings" (defArgs s_law_meetings) (defBody s_law_meetings) (defScope s_law_meetings) .none kV23 dc23 pm23 an23 cd23 ct23), sl23⟩) (c23 : PySem.W.codeIn K cd23 "_law_meetings" = true) (k23 : PySem.W.keepIn K (.ref f23) = true)
    (a24 : PySem.W.nsIn K mainGlobals "_law_told" = some (some (.ref f24))) (l24 : K.lookup f24 = some ⟨oc24, od24, .func (PySem.W.fnOf "_law_told" "_law_told" (defArgs s_law_told) (defBody s_law_told) (defScope s_law_told) .none kV24 dc24 pm24 an24 cd24 ct24), sl24⟩) (c24 : PySem.W.codeIn K cd24 "_law_told" = true) (k24 : PySem.W.keepIn K (.ref f24) = true)
    (a25 : PySem.W.nsIn K mainGlobals "law" = some (some (.ref f25))) (l25 : K.lookup f25 = some ⟨oc25, od25, .func (PySem.W.fnOf "law" "law" (defArgs s_law) (defBody s_law) (defScope s_law) .none kV25 dc25 pm25 an25 cd25 ct25), sl25⟩) (c25 : PySem.W.codeIn K cd25 "law" = true) (k25 : PySem.W.keepIn K (.ref f25) = true)
    (z_abs : PySem.W.nsIn K mainGlobals "abs" = some none)
    (z_all : PySem.W.nsIn K mainGlobals "all" = some none)
    (z_enumerate : PySem.W.nsIn K mainGlobals "enumerate" = some none)
    (z_int : PySem.W.nsIn K mainGlobals "int" = some none)
    (z_isinstance : PySem.W.nsIn K mainGlobals "isinstance" = some none)
    (z_len : PySem.W.nsIn K mainGlobals "len" = some none)
    (z_list : PySem.W.nsIn K mainGlobals "list" = some none)
    (z_min : PySem.W.nsIn K mainGlobals "min" = some none)
    (z_range : PySem.W.nsIn K mainGlobals "range" = some none)
    (z_repr : PySem.W.nsIn K mainGlobals "repr" = some none)
    (z_sorted : PySem.W.nsIn K mainGlobals "sorted" = some none)
    (z_str : PySem.W.nsIn K mainGlobals "str" = some none)
    : ∃ fd : FuncData, (∀ (s : Shared) (v : Value), BindsTo s fd ⟨[v], []⟩ [("script", v)]) ∧ ∀ base : Heap, K.In base → base.Ns mainGlobals mg → LG.FnG l.prog w K mg base CX0 7 fa fd ["script"] (sp_law K) := by
  have e := hfa.symm.trans (PySem.W.mg_of X G a25)
  cases e
  let T : Txt K mg := {
    is_exact := ⟨_, _, fun_mk (st := s_is_exact) l0 c0 k0, (fun_mk (st := s_is_exact) l0 c0 k0).binds (ps := ["told"]) (fun _ _ _ _ _ _ us hl => match us, hl with | [_], _ => rfl), PySem.W.mg_of X G a0⟩
    terms_of := ⟨_, _, fun_mk (st := s_terms_of) l1 c1 k1, (fun_mk (st := s_terms_of) l1 c1 k1).binds (ps := ["told"]) (fun _ _ _ _ _ _ us hl => match us, hl with | [_], _ => rfl), PySem.W.mg_of X G a1⟩
    sizes_in := ⟨_, _, fun_mk (st := s_sizes_in) l2 c2 k2, (fun_mk (st := s_sizes_in) l2 c2 k2).binds (ps := ["told"]) (fun _ _ _ _ _ _ us hl => match us, hl with | [_], _ => rfl), PySem.W.mg_of X G a2⟩
    places_of := ⟨_, _, fun_mk (st := s_places_of) l3 c3 k3, (fun_mk (st := s_places_of) l3 c3 k3).binds (ps := ["told"]) (fun _ _ _ _ _ _ us hl => match us, hl with | [_], _ => rfl), PySem.W.mg_of X G a3⟩
    powers_in := ⟨_, _, fun_mk (st := s_powers_in) l4 c4 k4, (fun_mk (st := s_powers_in) l4 c4 k4).binds (ps := ["told", "many"]) (fun _ _ _ _ _ _ us hl => match us, hl with | [_, _], _ => rfl), PySem.W.mg_of X G a4⟩
    powers := ⟨_, _, fun_mk (st := s_powers) l5 c5 k5, (fun_mk (st := s_powers) l5 c5 k5).binds (ps := ["model"]) (fun _ _ _ _ _ _ us hl => match us, hl with | [_], _ => rfl), PySem.W.mg_of X G a5⟩
    exact_row := ⟨_, _, fun_mk (st := s_exact_row) l6 c6 k6, (fun_mk (st := s_exact_row) l6 c6 k6).binds (ps := ["told", "many"]) (fun _ _ _ _ _ _ us hl => match us, hl with | [_, _], _ => rfl), PySem.W.mg_of X G a6⟩
    exact_table := ⟨_, _, fun_mk (st := s_exact_table) l7 c7 k7, (fun_mk (st := s_exact_table) l7 c7 k7).binds (ps := ["model"]) (fun _ _ _ _ _ _ us hl => match us, hl with | [_], _ => rfl), PySem.W.mg_of X G a7⟩
    meetings := ⟨_, _, fun_mk (st := s_meetings) l8 c8 k8, (fun_mk (st := s_meetings) l8 c8 k8).binds (ps := ["model"]) (fun _ _ _ _ _ _ us hl => match us, hl with | [_], _ => rfl), PySem.W.mg_of X G a8⟩
    exact_laws := ⟨_, _, fun_mk (st := s_exact_laws) l9 c9 k9, (fun_mk (st := s_exact_laws) l9 c9 k9).binds (ps := ["model"]) (fun _ _ _ _ _ _ us hl => match us, hl with | [_], _ => rfl), PySem.W.mg_of X G a9⟩
    sized_laws := ⟨_, _, fun_mk (st := s_sized_laws) l10 c10 k10, (fun_mk (st := s_sized_laws) l10 c10 k10).binds (ps := ["model"]) (fun _ _ _ _ _ _ us hl => match us, hl with | [_], _ => rfl), PySem.W.mg_of X G a10⟩
    sizes_of := ⟨_, _, fun_mk (st := s_sizes_of) l11 c11 k11, (fun_mk (st := s_sizes_of) l11 c11 k11).binds (ps := ["model"]) (fun _ _ _ _ _ _ us hl => match us, hl with | [_], _ => rfl), PySem.W.mg_of X G a11⟩
    law_draws := ⟨_, _, fun_mk (st := s_law_draws) l12 c12 k12, (fun_mk (st := s_law_draws) l12 c12 k12).binds (ps := ["script"]) (fun _ _ _ _ _ _ us hl => match us, hl with | [_], _ => rfl), PySem.W.mg_of X G a12⟩
    law_at := ⟨_, _, fun_mk (st := s_law_at) l13 c13 k13, (fun_mk (st := s_law_at) l13 c13 k13).binds (ps := ["draws", "k", "many"]) (fun _ _ _ _ _ _ us hl => match us, hl with | [_, _, _], _ => rfl), PySem.W.mg_of X G a13⟩
    law_name := ⟨_, _, fun_mk (st := s_law_name) l14 c14 k14, (fun_mk (st := s_law_name) l14 c14 k14).binds (ps := ["draws", "k"]) (fun _ _ _ _ _ _ us hl => match us, hl with | [_, _], _ => rfl), PySem.W.mg_of X G a14⟩
    law_quantities := ⟨_, _, fun_mk (st := s_law_quantities) l15 c15 k15, (fun_mk (st := s_law_quantities) l15 c15 k15).binds (ps := ["draws", "k", "many"]) (fun _ _ _ _ _ _ us hl => match us, hl with | [_, _, _], _ => rfl), PySem.W.mg_of X G a15⟩
    law_places := ⟨_, _, fun_mk (st := s_law_places) l16 c16 k16, (fun_mk (st := s_law_places) l16 c16 k16).binds (ps := ["draws", "k", "many", "size"]) (fun _ _ _ _ _ _ us hl => match us, hl with | [_, _, _, _], _ => rfl), PySem.W.mg_of X G a16⟩
    law_one := ⟨_, _, fun_mk (st := s_law_one) l17 c17 k17, (fun_mk (st := s_law_one) l17 c17 k17).binds (ps := ["draws", "k", "many", "number"]) (fun _ _ _ _ _ _ us hl => match us, hl with | [_, _, _, _], _ => rfl), PySem.W.mg_of X G a17⟩
    law_long := ⟨_, _, fun_mk (st := s_law_long) l18 c18 k18, (fun_mk (st := s_law_long) l18 c18 k18).binds (ps := ["draws", "first", "many"]) (fun _ _ _ _ _ _ us hl => match us, hl with | [_, _, _], _ => rfl), PySem.W.mg_of X G a18⟩
    law_model := ⟨_, _, fun_mk (st := s_law_model) l19 c19 k19, (fun_mk (st := s_law_model) l19 c19 k19).binds (ps := ["draws", "first"]) (fun _ _ _ _ _ _ us hl => match us, hl with | [_, _], _ => rfl), PySem.W.mg_of X G a19⟩
    law_places_of := ⟨_, _, fun_mk (st := s_law_places_of) l20 c20 k20, (fun_mk (st := s_law_places_of) l20 c20 k20).binds (ps := ["law"]) (fun _ _ _ _ _ _ us hl => match us, hl with | [_], _ => rfl), PySem.W.mg_of X G a20⟩
    law_powers := ⟨_, _, fun_mk (st := s_law_powers) l21 c21 k21, (fun_mk (st := s_law_powers) l21 c21 k21).binds (ps := ["model"]) (fun _ _ _ _ _ _ us hl => match us, hl with | [_], _ => rfl), PySem.W.mg_of X G a21⟩
    law_table := ⟨_, _, fun_mk (st := s_law_table) l22 c22 k22, (fun_mk (st := s_law_table) l22 c22 k22).binds (ps := ["model"]) (fun _ _ _ _ _ _ us hl => match us, hl with | [_], _ => rfl), PySem.W.mg_of X G a22⟩
    law_meetings := ⟨_, _, fun_mk (st := s_law_meetings) l23 c23 k23, (fun_mk (st := s_law_meetings) l23 c23 k23).binds (ps := ["model"]) (fun _ _ _ _ _ _ us hl => match us, hl with | [_], _ => rfl), PySem.W.mg_of X G a23⟩
    law_told := ⟨_, _, fun_mk (st := s_law_told) l24 c24 k24, (fun_mk (st := s_law_told) l24 c24 k24).binds (ps := ["model"]) (fun _ _ _ _ _ _ us hl => match us, hl with | [_], _ => rfl), PySem.W.mg_of X G a24⟩
    law := ⟨_, _, fun_mk (st := s_law) l25 c25 k25, (fun_mk (st := s_law) l25 c25 k25).binds (ps := ["script"]) (fun _ _ _ _ _ _ us hl => match us, hl with | [_], _ => rfl), PySem.W.mg_of X G a25⟩
    m_abs := PySem.W.mg_none_of X G z_abs
    m_all := PySem.W.mg_none_of X G z_all
    m_enumerate := PySem.W.mg_none_of X G z_enumerate
    m_int := PySem.W.mg_none_of X G z_int
    m_isinstance := PySem.W.mg_none_of X G z_isinstance
    m_len := PySem.W.mg_none_of X G z_len
    m_list := PySem.W.mg_none_of X G z_list
    m_min := PySem.W.mg_none_of X G z_min
    m_range := PySem.W.mg_none_of X G z_range
    m_repr := PySem.W.mg_none_of X G z_repr
    m_sorted := PySem.W.mg_none_of X G z_sorted
    m_str := PySem.W.mg_none_of X G z_str
  }
  exact ⟨PySem.W.fnOf "law" "law" (defArgs s_law) (defBody s_law) (defScope s_law) .none kV25 dc25 pm25 an25 cd25 ct25, fun s v => .of_eq rfl, fun base _ _ => ok_law T⟩
theorem walk {l : PySem.W.OpenLaw} {q : Program} {loose : List Str} {XP : (Str → Option Value) → Heap → Prop} {YP : World → Heap → Prop} {d : DefRec} {K : Params → PySem.W.Frag} (hn : l.most = some 63) (hdf : d.params.defaults = [])
    (hY : ∀ (w : World) (h : Heap), YP w h → (K w.params).In h)
    (F : ∀ (w : World) (mg : Str → Option Value) (fa : Addr) (h : Heap), (K w.params).In h → h.Ns mainGlobals mg → mg d.name = some (.ref fa) →
      ∃ fd : FuncData, (∀ (s : Shared) (u : Value), BindsTo s fd ⟨[u], []⟩ [("script", u)]) ∧ ∀ base : Heap, (K w.params).In base → base.Ns mainGlobals mg → LG.FnG l.prog w (K w.params) mg base CX0 7 fa fd ["script"] (sp_law (K w.params))) :
    PySem.W.WalkO q loose XP YP l.row.toRowW d [] (fun f vs => PySem.call f vs) :=
  LG.walkG (n := 63) (k := 7) (x := "script") (sp := sp_law) hn (by decide) hdf ⟨rfl, by decide, by decide⟩ hY F fun _ _ a ns hl _ hS => ⟨a, ns, rfl, hS, hl, fun _ => rfl⟩
end
end K06

open PySem PySem.W PyProof.Rows in
set_option maxRecDepth 100000 in
set_option maxHeartbeats 0 in
theorem PySem.Challenge.cw_unsaidsizes_k06_tables_of_a_model_holds : PySem.Challenge.rw_unsaidsizes_k06_tables_of_a_model.Holds := by
  w_on; o_law; k_head; (case hw => w_witness2)
  k_fill
  refine K06.walk (l := PySem.Challenge.rw_unsaidsizes_k06_tables_of_a_model) rfl rfl (fun w h Y => PySem.W.kIn_of Y) ?F
  case F =>
    intro w mg fa h KX G hmg
    refine' K06.all_mk KX G hmg ?a0 ?l0 ?c0 ?k0 ?a1 ?l1 ?c1 ?k1 ?a2 ?l2 ?c2 ?k2 ?a3 ?l3 ?c3 ?k3 ?a4 ?l4 ?c4 ?k4 ?a5 ?l5 ?c5 ?k5 ?a6 ?l6 ?c6 ?k6 ?a7 ?l7 ?c7 ?k7 ?a8 ?l8 ?c8 ?k8 ?a9 ?l9 ?c9 ?k9 ?a10 ?l10 ?c10 ?k10 ?a11 ?l11 ?c11 ?k11 ?a12 ?l12 ?c12 ?k12 ?a13 ?l13 ?c13 ?k13 ?a14 ?l14 ?c14 ?k14 ?a15 ?l15 ?c15 ?k15 ?a16 ?l16 ?c16 ?k16 ?a17 ?l17 ?c17 ?k17 ?a18 ?l18 ?c18 ?k18 ?a19 ?l19 ?c19 ?k19 ?a20 ?l20 ?c20 ?k20 ?a21 ?l21 ?c21 ?k21 ?a22 ?l22 ?c22 ?k22 ?a23 ?l23 ?c23 ?k23 ?a24 ?l24 ?c24 ?k24 ?a25 ?l25 ?c25 ?k25 ?z_abs ?z_all ?z_enumerate ?z_int ?z_isinstance ?z_len ?z_list ?z_min ?z_range ?z_repr ?z_sorted ?z_str
    (case a0 => k_is)
    (case l0 => k_is)
    (case c0 => k_is)
    (case k0 => k_is)
    (case a1 => k_is)
    (case l1 => k_is)
    (case c1 => k_is)
    (case k1 => k_is)
    (case a2 => k_is)
    (case l2 => k_is)
    (case c2 => k_is)
    (case k2 => k_is)
    (case a3 => k_is)
    (case l3 => k_is)
    (case c3 => k_is)
    (case k3 => k_is)
    (case a4 => k_is)
    (case l4 => k_is)
    (case c4 => k_is)
    (case k4 => k_is)
    (case a5 => k_is)
    (case l5 => k_is)
    (case c5 => k_is)
    (case k5 => k_is)
    (case a6 => k_is)
    (case l6 => k_is)
    (case c6 => k_is)
    (case k6 => k_is)
    (case a7 => k_is)
    (case l7 => k_is)
    (case c7 => k_is)
    (case k7 => k_is)
    (case a8 => k_is)
    (case l8 => k_is)
    (case c8 => k_is)
    (case k8 => k_is)
    (case a9 => k_is)
    (case l9 => k_is)
    (case c9 => k_is)
    (case k9 => k_is)
    (case a10 => k_is)
    (case l10 => k_is)
    (case c10 => k_is)
    (case k10 => k_is)
    (case a11 => k_is)
    (case l11 => k_is)
    (case c11 => k_is)
    (case k11 => k_is)
    (case a12 => k_is)
    (case l12 => k_is)
    (case c12 => k_is)
    (case k12 => k_is)
    (case a13 => k_is)
    (case l13 => k_is)
    (case c13 => k_is)
    (case k13 => k_is)
    (case a14 => k_is)
    (case l14 => k_is)
    (case c14 => k_is)
    (case k14 => k_is)
    (case a15 => k_is)
    (case l15 => k_is)
    (case c15 => k_is)
    (case k15 => k_is)
    (case a16 => k_is)
    (case l16 => k_is)
    (case c16 => k_is)
    (case k16 => k_is)
    (case a17 => k_is)
    (case l17 => k_is)
    (case c17 => k_is)
    (case k17 => k_is)
    (case a18 => k_is)
    (case l18 => k_is)
    (case c18 => k_is)
    (case k18 => k_is)
    (case a19 => k_is)
    (case l19 => k_is)
    (case c19 => k_is)
    (case k19 => k_is)
    (case a20 => k_is)
    (case l20 => k_is)
    (case c20 => k_is)
    (case k20 => k_is)
    (case a21 => k_is)
    (case l21 => k_is)
    (case c21 => k_is)
    (case k21 => k_is)
    (case a22 => k_is)
    (case l22 => k_is)
    (case c22 => k_is)
    (case k22 => k_is)
    (case a23 => k_is)
    (case l23 => k_is)
    (case c23 => k_is)
    (case k23 => k_is)
    (case a24 => k_is)
    (case l24 => k_is)
    (case c24 => k_is)
    (case k24 => k_is)
    (case a25 => k_is)
    (case l25 => k_is)
    (case c25 => k_is)
    (case k25 => k_is)
    (case z_abs => k_is)
    (case z_all => k_is)
    (case z_enumerate => k_is)
    (case z_int => k_is)
    (case z_isinstance => k_is)
    (case z_len => k_is)
    (case z_list => k_is)
    (case z_min => k_is)
    (case z_range => k_is)
    (case z_repr => k_is)
    (case z_sorted => k_is)
    (case z_str => k_is)
