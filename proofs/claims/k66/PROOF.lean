import PyProof.Rows.All
import Wide.All
import OpenK.AllK
import Wide.FinOn
import KE.KTypeName
import KE.KExcIs
import PyProof.FitsInt
import HandS.Base
import HandS.Call
import HandS.List
import HandS.Comp
import HandS.Ends
import HandS.Iter
import HandS.Wide
import HandS.WideBits
import HandS.Gcd
import HandS.Words
import HandS.WordsList
import HandS.WordsExc
import HandS.IsInst
import HandS.TupLe
import HandS.Exc
import HandS.ExcOwn
import HandS.ExcInit
import HandS.ExcField
import HandS.FStr
import PySem.Challenge.RW_unsaidsizes_k66_ratios
set_option Elab.async false
set_option linter.all false
set_option maxRecDepth 100000
set_option maxHeartbeats 4000000
/-! errors of own classes whose __init__ tells the class's name: C.__name__, e.__class__, isinstance, the whole of a raise -/
namespace LX
open PySem PySem.W PySem.Calls PyProof.Rows Builtin Builtin.ObjectAttr Builtin.Getset_descriptor
section
variable {prog : Program} {w : World} {A : Around} {E : Value → Shared → Prop} {s : Shared} {K : Frag} {R : Result → Shared → Prop} {C : Addr}
/-- the name that a class keeps in its slots -/
theorem kept_name {tp v : Value} {o : Obj} (X : K.In s.heap) (tC : typeIn K (.ref C) = some (.type "type")) (ho : K.lookup C = some o) (hs : o.slots[2]? = some (some v)) (h : R (.ok (.ret v)) s) :
    codeAny (model prog w) A (.call (.builtin "getset_descriptor.__get__") ⟨[.builtin "type.__name__", .ref C, tp], []⟩) R s := by
  obtain ⟨hp, g, dr, tk, os⟩ := s
  have isTy : Looks (model prog w) hp (typeOf (.ref C)) (.type "type") := looks_typeIn X tC
  have same : Looks (model prog w) hp (isSubtype (.type "type") (.type "type")) true := .of_pure (by rw [isSubtype_type]; kernel_rfl)
  refine codeAny_call_builtin KF.slot_gs.plain KF.entry_gs (KF.slot_gs.check _ _ _ _ _ _ _ _ ktyn_type (KF.args_gs _ _ _) ?_)
  unfold Builtin.«getset_descriptor.__get__» descrGet
  rw [show descrGetArgs ⟨[.builtin "type.__name__", .ref C, tp], []⟩ = pure (.builtin "type.__name__", some (.ref C), given tp) by kernel_rfl]
  refine wpAny_bind (wpAny_pure ?_); unfold descrGetter descrCheckInstance descrNameAndClass isInstance
  simp only [ktyn_owner]; repeat lk
  refine ⟨Code.quiet_builtin _ (by decide +kernel), codeAny_builtin ktyn_entry ?_⟩
  unfold Builtin.«type.__name__» keptObject slotAt; dsimp only
  refine wpAny_bind (wpAny_bind (wpAny_loadPart_at (X _ _ ho) (wpAny_pure ?_))); rw [hs]
  exact wpAny_pure h
theorem name_of_class {v : Value} {o : Obj} {ex : Bool} {Q : Value → Shared → Prop} (X : K.In s.heap) (hr : readsIn K C (.type "type") = true)
    (e : findCls K (.ref C) (.type "type") "__name__" = some (.get (.builtin "getset_descriptor.__get__") (.builtin "type.__name__") (.ref C) (.type "type")))
    (tC : typeIn K (.ref C) = some (.type "type")) (ho : K.lookup C = some o) (hs : o.slots[2]? = some (some v)) (hv : handedIn v = true) (h : Q v { s with toks := s.toks + 1 }) :
    wpAny (model prog w) A (getAttr (.ref C) "__name__" ex) Q E s := cls_bind X hr e (wpAny_call (kept_name (s := { s with toks := s.toks + 1 }) X tC ho hs (handed_on hv h)))
/-- what the written part says of an own error class -/
structure Own (K : Frag) (D : Addr) : Prop where
  cl : (clsIn K D).isSome = true
  ga : findIn K (.ref D) "__getattribute__" = some (some (.builtin "BaseException.__getattribute__"))
  gt : findIn K (.ref D) "__getattr__" = some none
  sub : subIn K (.ref D) (.type "BaseException") = some true
  at_ : findIn K (.ref D) "__class__" = some (some (.builtin "object.__class__"))
  sp : specialIn K (.builtin "object.__class__") "__get__" = some (some (.builtin "getset_descriptor.__get__"))
  tk : takesIn K (.builtin "object.__class__") = some true
  mro : mroIn K D (.type "object") = some true
theorem class_of_error {x D : Addr} {ox : Obj} {od : Option Obj} {ex : Bool} {Q : Value → Shared → Prop} (T : Own K D) (X : K.In s.heap) (I : InstAt s.heap x ox D od) (h : Q (.ref D) { s with toks := s.toks + 1 }) :
    wpAny (model prog w) A (getAttr (.ref x) "__class__" ex) Q E s := by
  have hf : findObj K D od "__class__" = some (.bind (.builtin "getset_descriptor.__get__") (.builtin "object.__class__")) := findObj_dataE T.cl T.at_ T.sp T.tk
  obtain ⟨hp, g, d, t, os⟩ := s
  have l0 := I.type (M := model prog w); have l1 := looks_findIn (M := model prog w) X T.ga
  have l2 := looks_findIn (M := model prog w) X T.gt; have l3 := looks_find (M := model prog w) X I hf
  have isE : Looks (model prog w) hp (isInstance (.ref x) (.type "BaseException")) true := l0.andThen (looks_subIn X T.sub)
  have n2 : (Value.builtin "BaseException.__getattribute__" == Value.builtin "object.__getattribute__") = false := by decide +kernel
  unfold getAttr getAttrBy
  refine wpAny_bind (wpAny_mkText (wpAny_holding (wpAny_bind (l0.at (wpAny_bind (l1.at ?_))))))
  show wpAny _ _ (if (onTheHeap (Value.ref D) && Value.builtin "BaseException.__getattribute__" == Value.builtin "object.__getattribute__") = true then _ else _) _ _ _; rw [n2, Bool.and_false, if_neg Bool.false_ne_true]
  unfold getAttrByItsOwn hookBefore; refine wpAny_bind ?_; rw [if_pos (show onTheHeap (Value.ref D) = true from rfl)]
  refine l2.at (wpAny_bind (wpAny_attempt (wpAny_holding ?_)))
  unfold callGetattribute boundAndCalled; rw [show (ex && onTheHeap (Value.builtin "BaseException.__getattribute__")) = false by cases ex <;> rfl, if_neg Bool.false_ne_true, PySem.F.excAttr_ValueError.ga.bind (.ref x)]
  refine wpAny_bind (wpAny_pure ?_); show wpAny _ _ (call (.builtin "BaseException.__getattribute__") [.ref x, .str "__class__" t]) _ _ _
  refine wpAny_call (codeAny_call_builtin PySem.F.excAttr_ValueError.ga.plain PySem.F.entry_bexc_ga (@PySem.W.check_slot (model prog w) _ _ ⟨hp, g, d, t + 1, os⟩ "BaseException.__getattribute__" "BaseException" "__getattribute__" (.ref x) [.str "__class__" t] [] _ (by decide +kernel) (by decide +kernel) isE (PySem.F.args_bexc_ga (.ref x) (.str "__class__" t)) ?_))
  unfold Builtin.«object.__getattribute__»; refine wpAny_bind (wpAny_of_eq (a := ((Value.ref x : Value), [Value.str "__class__" t])) (by first | rfl | (simp only [slotArgs]; rfl)) ?_)
  refine wpAny_bind (wpAny_pure (wpAny_bind (l0.at (wpAny_bind (l3.at (wpAny_bind (wpAny_holding (wpAny_call (class_get (s := ⟨hp, g, d, t + 1, os⟩) (ox := ox) (od := od) X I T.mro ?_)))))))))
  refine wpAny_pure ?_; show wpAny _ _ (handedOut (.ref D)) _ _ _; rw [handedOut_of (v := .ref D) rfl]
  first | exact wpAny_pure h | exact wpAny_pure (wpAny_pure h)
end
end LX
namespace LX
open PySem PySem.Spec PyProof.Rows L2
/-- .. and of its kept name -/
structure Named (K : PySem.W.Frag) (D : Addr) (nm : Str) : Prop where
  own : Own K D
  rd : PySem.W.readsIn K D (.type "type") = true
  fc : PySem.W.findCls K (.ref D) (.type "type") "__name__" = some (.get (.builtin "getset_descriptor.__get__") (.builtin "type.__name__") (.ref D) (.type "type"))
  ty : PySem.W.typeIn K (.ref D) = some (.type "type")
  lk : ∃ (o : Obj) (t : Tok), K.lookup D = some o ∧ o.slots[2]? = some (some (.str nm t))
  sz : nm.length ≤ 1000
def tCn (K : PySem.W.Frag) (te : TE) : TE := fun σ H Q => te σ H fun x H1 => ∃ (a D : Addr) (nm : Str), x = .ref a ∧ H1 a = some (exo a D none) ∧ Named K D nm ∧ Q (.str nm) H1
/-- self.__class__.__name__ -/
theorem pe_cn {X : Cx} {e : Expr} {te : TE} {p1 p2 : Pos} (he : PE X e te) (hb : attributeBase e "__class__" X.env (eval e X.env) = eval e X.env := by rfl)
    (hb2 : attributeBase (.Attribute e "__class__" p1) "__name__" X.env (eval (.Attribute e "__class__" p1) X.env) = eval (.Attribute e "__class__" p1) X.env := by rfl) : PE X (.Attribute (.Attribute e "__class__" p1) "__name__" p2) (tCn X.K te) := by
  refine ⟨fun pins s σ H Q I h => attr_of hb2 (attr_of hb (thn (he.run pins s σ H _ I h) fun u s1 hh => ?_))⟩
  obtain ⟨x, H1, J, rx, a, D, nm, rfl, ea, T, q⟩ := hh
  obtain rfl : u = Value.ref a := rx
  obtain ⟨t1, hg⟩ := exo_at J.hok ea
  obtain ⟨o, tk, hlk, hsl⟩ := T.lk
  refine class_of_error (od := none) T.own J.kIn ⟨hg, rfl, rfl, True.intro⟩ ?_
  exact name_of_class (s := { s1 with toks := s1.toks + 1 }) J.kIn T.rd T.fc T.ty hlk hsl rfl ⟨.str nm, H1, (J.tok _).tok _, ⟨tk, rfl⟩, q⟩
/-- isinstance(e, c) of a caught error that has fields -/
def rIsD (K : PySem.W.Frag) (D a dd : Addr) : List V → Hp → VK → Prop := fun xs H Q => ∃ (c : V) (cv : Value) (b : Bool) (fs : List (Str × V)), xs = [.ref a, c] ∧ ClsV c cv ∧ H dd = some (.xd fs) ∧ PySem.W.kitOne K (.ref D) cv = some b ∧ Q (.bl b) H
theorem call_isD {X : Cx} {a D dd : Addr} {oe : Obj} {pn : List (Addr × Obj)} (T : Own X.K D) (hz : Zc (.ref D) (some dd) oe) (hf : ∃ vs, oe.data = .fields vs) : CallR (X.suite a ((a, oe) :: pn)) (.builtin "isinstance") (rIsD X.K D a dd) := by
  intro pins s σ H xs us Q I r h
  obtain ⟨c, cv, b, fs, rfl, hcv, hdd, e, q⟩ := h
  obtain ⟨u1, u2, rfl, r1, r2⟩ := vals2 r
  obtain rfl : u1 = Value.ref a := r1
  have ec := hcv.eq r2
  subst ec
  obtain ⟨hget, _⟩ := I.pin (a, oe) (List.mem_append_left _ List.mem_cons_self)
  obtain ⟨vs, hv⟩ := hf
  have hx : ObjOk X.prog X.w H s.heap dd (.xd fs) := I.hok dd _ hdd
  obtain ⟨mA, hns, _⟩ := hx
  obtain ⟨od, ho, _⟩ := lookIn_ns hns
  have J : PySem.W.InstAt s.heap a oe D (some od) := ⟨hget, hz.1, by unfold PySem.W.notCls; rw [hv] <;> rfl, by rw [hz.2]; exact ho⟩
  exact PySem.W.kia_one (PySem.W.kitx_exc T.cl T.ga T.gt T.sub T.at_ T.sp T.tk T.mro) I.kIn J e (fun z => nomatch z) fun tk => ⟨.bl b, H, I.tok tk, rfl, q⟩
end LX
/-! further generic texts: // by a divisor of any sign, isinstance of a caught error whose class is told by the reading, the facts of an own error class that keeps a number -/
namespace LX
open PySem PySem.Spec PyProof.Rows L2
def CDivWN (_ j : Int) : Prop := j ≠ 0 ∧ j.natAbs.log2 < 9000
section
variable {X : Cx}
theorem op_fdivWN : OpR X (binaryOp .FloorDiv) (rI CDivWN fun i j => .int (i.fdiv j)) := opI fun _ _ _ _ _ _ _ hc q => floordiv_int hc.1 q (.inl (PyProof.noPylong_of_log2 hc.2))
end
def rIsX (K : PySem.W.Frag) (a : Addr) (cls : Value) (d : Option Addr) : List V → Hp → VK → Prop := fun xs H Q => ∃ (D dd : Addr) (c : V) (cv : Value) (b : Bool) (fs : List (Str × V)), cls = .ref D ∧ d = some dd ∧ Own K D ∧ xs = [.ref a, c] ∧ ClsV c cv ∧
  H dd = some (.xd fs) ∧ PySem.W.kitOne K (.ref D) cv = some b ∧ Q (.bl b) H
theorem call_isX {X : Cx} {a : Addr} {cls : Value} {d : Option Addr} {oe : Obj} {pn : List (Addr × Obj)} (hz : Zc cls d oe) (hf : ∃ vs, oe.data = .fields vs) : CallR (X.suite a ((a, oe) :: pn)) (.builtin "isinstance") (rIsX X.K a cls d) := by
  intro pins s σ H xs us Q I r h
  obtain ⟨D, dd, c, cv, b, fs, rfl, rfl, T, ex, hcv, hdd, e, q⟩ := h
  exact call_isD T hz hf pins s σ H xs us Q I r ⟨c, cv, b, fs, ex, hcv, hdd, e, q⟩
theorem text_len {i : Int} {k : Nat} (hk : 0 < k) (h : i.natAbs < 10 ^ k) : (Str.ofString (toString i)).length ≤ k + 1 := by
  have e := PySem.int_text_length_le10 hk h
  rw [PyProof.Rows.ofString_length]
  exact e
theorem bits_le {i : Int} {k : Nat} (h : i.natAbs < 2 ^ k) : Builtin.Int.intBits i ≤ k := PyProof.Rows.intBits_le h
/-- the base of the text's errors -/
structure Err0 (K : PySem.W.Frag) (mg : Str → Option Value) (st : Stmt) where
  CM : Addr
  f : Addr
  fd : FuncData
  F : Fun K "__init__" "ModelError.__init__" st f fd
  b : Binds K fd ["self", "at"] []
  tI : PySem.W.typeIn K (.ref f) = some (.type "function")
  gM : mg "ModelError" = some (.ref CM)
  mV : mg "ValueError" = none
  vV : PySem.W.findCls K (.type "ValueError") (.type "type") "__init__" = some (.val (.builtin "ValueError.__init__"))
/-- one of them -/
structure ErrC (K : PySem.W.Frag) (mg : Str → Option Value) (x : Str) (CM f : Addr) where
  C : Addr
  nm : Str
  named : Named K C nm
  oex : OexC K C
  noAt : PySem.W.findIn K (.ref C) "at" = some none
  iC : PySem.W.findIn K (.ref C) "__init__" = some (some (.ref f))
  g : mg x = some (.ref C)
  exm : PySem.W.exmOne K (.ref C) (.ref CM) = some true
  kit : PySem.W.kitOne K (.ref C) (.ref C) = some true
  xf : XfC K C
/-- an error of the class at C is taken by a clause for the class at S above it -/
theorem exm_is {K : PySem.W.Frag} {S C : Addr} (h1 : PySem.W.subIn K (.ref S) (.type "BaseException") = some true) (h2 : PySem.W.isClsIn K S = true) (h3 : PySem.W.typeIn K (.ref S) = some (.type "type")) (h4 : PySem.W.subIn K (.ref C) (.ref S) = some true) :
    PySem.W.exmOne K (.ref C) (.ref S) = some true := by
  have a : ((PySem.W.clsIn K S).isSome && PySem.W.typeIn K (.ref S) == some (.type "type")) = true := by
    rw [show (PySem.W.clsIn K S).isSome = true from h2, h3]; rfl
  unfold PySem.W.exmOne
  rw [h1, if_pos (by rfl)]
  show (if ((PySem.W.clsIn K S).isSome && PySem.W.typeIn K (.ref S) == some (.type "type")) = true then PySem.W.subIn K (.ref C) (.ref S) else none) = some true
  rw [if_pos a, h4]
theorem refs_one (c : Addr) : PySem.HandSPX.refsVE [.ref c, .type "ValueError", .type "Exception", .type "BaseException", .type "object"] = true := by
  show PySem.HandSPX.refsVE PySem.HandSPX.veTail = true
  decide +kernel
theorem kit_self (K : PySem.W.Frag) (C : Addr) : PySem.W.kitOne K (.ref C) (.ref C) = some true := by
  unfold PySem.W.kitOne
  rw [if_pos (by simp)]
/-- a and b as a value, where b changes nothing and its answer is known -/
def tAndP (ta tb : TE) : TE := fun σ H Q => ta σ H fun x H1 => ∃ c r, x = .bl c ∧ (c = true → ∀ Q' : VK, Q' (.bl r) H1 → tb σ H1 Q') ∧ Q (.bl (c && r)) H1
theorem pe_andP {X : Cx} {a b : Expr} {rest : List Expr} {ta tb : TE} {pos : Pos} (ha : PE X a ta) (hb : PE X (.BoolOp .And (b :: rest) pos) tb) : PE X (.BoolOp .And (a :: b :: rest) pos) (tAndP ta tb) := by
  refine ⟨fun pins s σ H Q I h => ?_⟩
  refine BoolOp_and (thn (ha.run pins s σ H _ I h) fun v s1 ⟨x, H1, I1, r1, q1⟩ => ?_)
  obtain ⟨c, r, rfl, hA, q⟩ := q1
  cases r1
  refine wpAny_truthy_bool ?_
  cases c with
  | true => exact hb.run pins s1 σ H1 Q I1 (hA rfl Q q)
  | false => exact ⟨.bl false, H1, I1, rfl, q⟩
/-- an error is let go that stood above H -/
theorem upd_back {H : Hp} {a d : Addr} {o1 o2 o3 x : HO} (ha : H a = none) (hd : d ≠ a) : upd (del (upd (upd (upd H a o1) d o2) a o3) a) d x = upd H d x := by
  funext b
  by_cases h1 : b = d
  · rw [h1, upd_same, upd_same]
  · rw [upd_ne h1, upd_ne h1]
    by_cases h2 : b = a
    · rw [h2, del_same, ha]
    · rw [del_ne h2, upd_ne h2, upd_ne h1, upd_ne h2]
/-- __init__ of the text's errors, at an error of the class C -/
def sp_init (K : PySem.W.Frag) : Sp := fun vs H Q _ => ∃ (e C : Addr) (nm : Str) (i : Int), vs = [.ref e, .int i] ∧ H e = some (exo e C none) ∧ Named K C nm ∧ OexC K C ∧ PySem.W.findIn K (.ref C) "at" = some none ∧ i.natAbs < 10 ^ 12 ∧
  ∀ d, H d = none → d ≠ e → Q .non (upd (upd H d (exd d [("at", .int i)])) e (exo e C (some d)))
/-- what a raise asks when the class's __init__ is as above -/
theorem raised {K : PySem.W.Frag} {mg : Str → Option Value} {x : Str} {CM f : Addr} (T : ErrC K mg x CM f) {H : Hp} {n : Int} {E : XK} (hn : n.natAbs < 10 ^ 12) (q : ∀ d, H d = none → E (.ref T.C) (some d) (upd H d (.xd [("at", .int n)]))) (a : Addr) (ha : H a = none) :
    sp_init K (.ref a :: ([.int n] ++ [])) (upd H a (exo a T.C none)) (fun v H2 => v = .non ∧ ∃ (d : Addr) (fs : List (Str × V)), H2 a = some (exo a T.C (some d)) ∧ H2 d = some (exd d fs) ∧ H d = none ∧ E (.ref T.C) (some d) (upd (del H2 a) d (.xd fs))) (fun _ _ _ => False) := by
  refine ⟨a, T.C, T.nm, n, rfl, upd_same, T.named, T.oex, T.noAt, hn, fun d hd ne => ⟨rfl, d, [("at", .int n)], upd_same, ?_, ?_, ?_⟩⟩
  · rw [upd_ne ne]; exact upd_same
  · rw [upd_ne ne] at hd; exact hd
  · rw [upd_ne ne] at hd
    rw [upd_back ha ne]
    exact q d hd
end LX
namespace K66
/-- the greatest common divisor, as a whole number; with the sign of the lower part; the fraction -/
def gc (n d : Int) : Int := ((Nat.gcd n.natAbs d.natAbs : Nat) : Int)
def sg (n d : Int) : Int := if d < 0 then -gc n d else gc n d
theorem gc_pos {n d : Int} (h : d ≠ 0) : 0 < gc n d := by
  have : 0 < Nat.gcd n.natAbs d.natAbs := Nat.gcd_pos_of_pos_right _ (by omega)
  show (0 : Int) < ((Nat.gcd n.natAbs d.natAbs : Nat) : Int)
  omega
theorem gc_le {n d : Int} (h : d ≠ 0) : (gc n d).natAbs ≤ d.natAbs := by
  show (((Nat.gcd n.natAbs d.natAbs : Nat) : Int)).natAbs ≤ _
  rw [Int.natAbs_natCast]
  exact Nat.gcd_le_right _ (by omega)
theorem sg_ne {n d : Int} (h : d ≠ 0) : sg n d ≠ 0 := by
  have := gc_pos (n := n) h
  unfold sg
  split <;> omega
theorem sg_le {n d : Int} (h : d ≠ 0) : (sg n d).natAbs ≤ d.natAbs := by
  have := gc_le (n := n) h
  unfold sg
  split
  · rw [Int.natAbs_neg]; exact this
  · exact this
theorem gc_mul (n d t : Int) (ht : 0 < t) : gc (n * t) (d * t) = gc n d * t := by
  show ((Nat.gcd (n * t).natAbs (d * t).natAbs : Nat) : Int) = ((Nat.gcd n.natAbs d.natAbs : Nat) : Int) * t
  rw [Int.natAbs_mul, Int.natAbs_mul, Nat.gcd_mul_right, Int.natCast_mul]
  congr 1
  omega
theorem gc_neg_r (n d : Int) : gc n (-d) = gc n d := by
  show ((Nat.gcd n.natAbs (-d).natAbs : Nat) : Int) = _
  rw [Int.natAbs_neg]; rfl
theorem gc_neg_l (n d : Int) : gc (-n) d = gc n d := by
  show ((Nat.gcd (-n).natAbs d.natAbs : Nat) : Int) = _
  rw [Int.natAbs_neg]; rfl
theorem fdiv_mul_r (a b : Int) {t : Int} (ht : 0 < t) : (a * t).fdiv (b * t) = a.fdiv b := by
  rw [Int.mul_comm a, Int.mul_comm b]
  exact Int.mul_fdiv_mul_of_pos _ _ ht
/-- the fraction of (n t, - d t) is that of (-n, d) -/
theorem low_turned {n d t : Int} (hd : d ≠ 0) (ht : 0 < t) : (n * t).fdiv (sg (n * t) (-d * t)) = (-n).fdiv (sg (-n) d) ∧ (-d * t).fdiv (sg (n * t) (-d * t)) = d.fdiv (sg (-n) d) := by
  have e : gc (n * t) (-d * t) = gc n d * t := by rw [gc_mul _ _ _ ht, gc_neg_r]
  have e2 : gc (-n) d = gc n d := gc_neg_l n d
  by_cases h : d < 0
  · have h1 : ¬ (-d * t < 0) := by
      have : 0 < -d * t := Int.mul_pos (by omega) ht
      omega
    unfold sg
    rw [if_neg h1, if_pos h, e, e2]
    refine ⟨?_, ?_⟩
    · rw [fdiv_mul_r _ _ ht, Int.neg_fdiv_neg]
    · rw [fdiv_mul_r _ _ ht, ← Int.neg_fdiv_neg, Int.neg_neg]
  · have h1 : -d * t < 0 := by
      have : 0 < d * t := Int.mul_pos (by omega) ht
      rw [Int.neg_mul]
      omega
    unfold sg
    rw [if_pos h1, if_neg h, e, e2]
    refine ⟨?_, ?_⟩
    · rw [← Int.neg_mul, ← Int.neg_fdiv_neg, ← Int.neg_mul, ← Int.neg_mul, Int.neg_neg, fdiv_mul_r _ _ ht]
    · rw [← Int.neg_mul, Int.neg_mul, Int.neg_mul, Int.neg_fdiv_neg, fdiv_mul_r _ _ ht]
/-- the turns of Euclid's rule: what stands behind i of them -/
def Euc (B i x y : Nat) : Prop := (i = 0 ∧ x * y ≤ B) ∨ (1 ≤ i ∧ y ≤ x ∧ x * y * 2 ^ (i - 1) ≤ B)
theorem euc_step {B i x y : Nat} (h : Euc B i x y) (hy : y ≠ 0) : Euc B (i + 1) y (x % y) := by
  have hm : x % y < y := Nat.mod_lt _ (by omega)
  rcases h with ⟨rfl, h⟩ | ⟨hi, hyx, h⟩
  · refine .inr ⟨by omega, by omega, ?_⟩
    show y * (x % y) * 2 ^ 0 ≤ B
    rw [Nat.pow_zero, Nat.mul_one]
    refine Nat.le_trans ?_ h
    rw [Nat.mul_comm x y]
    exact Nat.mul_le_mul_left _ (Nat.mod_le _ _)
  · refine .inr ⟨by omega, by omega, ?_⟩
    have e : i + 1 - 1 = (i - 1) + 1 := by omega
    rw [e, Nat.pow_succ]
    have two : 2 * (x % y) ≤ x := by
      have d1 := Nat.div_add_mod x y
      have q1 : 1 ≤ x / y := (Nat.one_le_div_iff (by omega)).mpr hyx
      have : y ≤ y * (x / y) := Nat.le_mul_of_pos_right _ q1
      omega
    refine Nat.le_trans ?_ h
    have : y * (x % y) * (2 ^ (i - 1) * 2) = (2 * (x % y)) * y * 2 ^ (i - 1) := by
      simp [Nat.mul_comm, Nat.mul_left_comm, Nat.mul_assoc]
    rw [this]
    exact Nat.mul_le_mul_right _ (Nat.mul_le_mul_right _ two)
theorem euc_end {B x y : Nat} {n : Nat} (h : Euc B n x y) (hn : 1 ≤ n) (hB : B < 2 ^ (n - 1)) : y = 0 := by
  rcases h with ⟨rfl, _⟩ | ⟨_, hyx, h⟩
  · omega
  · rcases Nat.eq_zero_or_pos y with z | z
    · exact z
    · have : 1 ≤ x * y := Nat.mul_pos (by omega) z
      have : 1 * 2 ^ (n - 1) ≤ x * y * 2 ^ (n - 1) := Nat.mul_le_mul_right _ this
      omega
theorem gcd_turn (x y : Nat) : Nat.gcd y (x % y) = Nat.gcd x y := by
  rw [Nat.gcd_comm y (x % y), ← Nat.gcd_rec, Nat.gcd_comm]
end K66
namespace K66
open PySem PySem.Spec PyProof.Rows L2
-- B66
def topS (i : Nat) : Stmt := PySem.Challenge.pw_unsaidsizes_k66_ratios.main.body.getD i (.Pass ⟨0, 0, 0, 0⟩)
abbrev s_wording : Stmt := topS 2
theorem sc_wording : FnScope ["name", "at"] ["name", "at"] (defScope s_wording) := ⟨rfl, rfl, rfl, by decide +kernel, rfl, by decide +kernel, by decide +kernel⟩
abbrev s_lowest : Stmt := topS 6
theorem sc_lowest : FnScope ["n", "d", "shared"] ["n", "d"] (defScope s_lowest) := ⟨rfl, rfl, rfl, by decide +kernel, rfl, by decide +kernel, by decide +kernel⟩
abbrev s_ratio : Stmt := topS 7
theorem sc_ratio : FnScope ["n", "d"] ["n", "d"] (defScope s_ratio) := ⟨rfl, rfl, rfl, by decide +kernel, rfl, by decide +kernel, by decide +kernel⟩
abbrev s_is_ratio : Stmt := topS 8
theorem sc_is_ratio : FnScope ["pair", "n", "d"] ["pair"] (defScope s_is_ratio) := ⟨rfl, rfl, rfl, by decide +kernel, rfl, by decide +kernel, by decide +kernel⟩
abbrev s_plus : Stmt := topS 9
theorem sc_plus : FnScope ["one", "two"] ["one", "two"] (defScope s_plus) := ⟨rfl, rfl, rfl, by decide +kernel, rfl, by decide +kernel, by decide +kernel⟩
abbrev s_minus : Stmt := topS 10
theorem sc_minus : FnScope ["one", "two"] ["one", "two"] (defScope s_minus) := ⟨rfl, rfl, rfl, by decide +kernel, rfl, by decide +kernel, by decide +kernel⟩
abbrev s_times : Stmt := topS 11
theorem sc_times : FnScope ["one", "two"] ["one", "two"] (defScope s_times) := ⟨rfl, rfl, rfl, by decide +kernel, rfl, by decide +kernel, by decide +kernel⟩
abbrev s_over : Stmt := topS 12
theorem sc_over : FnScope ["one", "two"] ["one", "two"] (defScope s_over) := ⟨rfl, rfl, rfl, by decide +kernel, rfl, by decide +kernel, by decide +kernel⟩
abbrev s_law_draws : Stmt := topS 14
theorem sc_law_draws : FnScope ["script", "draws", "k", "rest", "turn", "mixed"] ["script"] (defScope s_law_draws) := ⟨rfl, rfl, rfl, by decide +kernel, rfl, by decide +kernel, by decide +kernel⟩
abbrev s_law_mix : Stmt := topS 15
theorem sc_law_mix : FnScope ["draws", "k", "many", "value"] ["draws", "k", "many"] (defScope s_law_mix) := ⟨rfl, rfl, rfl, by decide +kernel, rfl, by decide +kernel, by decide +kernel⟩
abbrev s_law_common : Stmt := topS 16
theorem sc_law_common : FnScope ["one", "two", "turn", "rest"] ["one", "two"] (defScope s_law_common) := ⟨rfl, rfl, rfl, by decide +kernel, rfl, by decide +kernel, by decide +kernel⟩
abbrev s_law_ratio : Stmt := topS 17
theorem sc_law_ratio : FnScope ["n", "d", "common"] ["n", "d"] (defScope s_law_ratio) := ⟨rfl, rfl, rfl, by decide +kernel, rfl, by decide +kernel, by decide +kernel⟩
abbrev s_law_drawn_ratio : Stmt := topS 18
theorem sc_law_drawn_ratio : FnScope ["draws", "k", "top", "n"] ["draws", "k"] (defScope s_law_drawn_ratio) := ⟨rfl, rfl, rfl, by decide +kernel, rfl, by decide +kernel, by decide +kernel⟩
abbrev s_law_is_integer : Stmt := topS 19
theorem sc_law_is_integer : FnScope ["actual"] ["actual"] (defScope s_law_is_integer) := ⟨rfl, rfl, rfl, by decide +kernel, rfl, by decide +kernel, by decide +kernel⟩
abbrev s_law_refused : Stmt := topS 20
theorem sc_law_refused : FnScope ["way", "one", "two", "e"] ["way", "one", "two"] (defScope s_law_refused) := ⟨rfl, rfl, rfl, by decide +kernel, rfl, by decide +kernel, by decide +kernel⟩
abbrev s_law_is_same : Stmt := topS 21
theorem sc_law_is_same : FnScope ["told", "n", "d"] ["told", "n", "d"] (defScope s_law_is_same) := ⟨rfl, rfl, rfl, by decide +kernel, rfl, by decide +kernel, by decide +kernel⟩
abbrev s_law_integer : Stmt := topS 22
theorem sc_law_integer : FnScope ["draws", "k", "top"] ["draws", "k"] (defScope s_law_integer) := ⟨rfl, rfl, rfl, by decide +kernel, rfl, by decide +kernel, by decide +kernel⟩
abbrev s_law : Stmt := topS 23
theorem sc_law : FnScope ["script", "draws", "turn", "n", "d", "times_both", "told", "one", "two"] ["script"] (defScope s_law) := ⟨rfl, rfl, rfl, by decide +kernel, rfl, by decide +kernel, by decide +kernel⟩
/-- a def as it stands behind the top -/
structure Def (K : PySem.W.Frag) (mg : Str → Option Value) (x : Str) (st : Stmt) (ps : List Str) where
  a : Addr
  fd : FuncData
  F : Fun K x x st a fd
  b : Binds K fd ps []
  g : mg x = some (.ref a)
structure Txt (K : PySem.W.Frag) (mg : Str → Option Value) where
  wording : Def K mg "_wording" s_wording ["name", "at"]
  lowest : Def K mg "_lowest" s_lowest ["n", "d"]
  ratio : Def K mg "ratio" s_ratio ["n", "d"]
  is_ratio : Def K mg "is_ratio" s_is_ratio ["pair"]
  plus : Def K mg "plus" s_plus ["one", "two"]
  minus : Def K mg "minus" s_minus ["one", "two"]
  times : Def K mg "times" s_times ["one", "two"]
  over : Def K mg "over" s_over ["one", "two"]
  law_draws : Def K mg "_law_draws" s_law_draws ["script"]
  law_mix : Def K mg "_law_mix" s_law_mix ["draws", "k", "many"]
  law_common : Def K mg "_law_common" s_law_common ["one", "two"]
  law_ratio : Def K mg "_law_ratio" s_law_ratio ["n", "d"]
  law_drawn_ratio : Def K mg "_law_drawn_ratio" s_law_drawn_ratio ["draws", "k"]
  law_is_integer : Def K mg "_law_is_integer" s_law_is_integer ["actual"]
  law_refused : Def K mg "_law_refused" s_law_refused ["way", "one", "two"]
  law_is_same : Def K mg "_law_is_same" s_law_is_same ["told", "n", "d"]
  law_integer : Def K mg "_law_integer" s_law_integer ["draws", "k"]
  law : Def K mg "law" s_law ["script"]
  m_abs : mg "abs" = none
  m_bool : mg "bool" = none
  m_int : mg "int" = none
  m_isinstance : mg "isinstance" = none
  m_len : mg "len" = none
  m_min : mg "min" = none
  m_range : mg "range" = none
  m_tuple : mg "tuple" = none
  x_gcd : mg "gcd" = some (.builtin "math.gcd")
/-! ### the errors of the text -/
abbrev s_init : Stmt := inClass (topS 3) 0
theorem sc_init : FnScope ["self", "at"] ["self", "at"] (defScope s_init) := ⟨rfl, rfl, rfl, by decide +kernel, rfl, by decide +kernel, by decide +kernel⟩
structure Errs (K : PySem.W.Frag) (mg : Str → Option Value) where
  e0 : LX.Err0 K mg s_init
  NoRatio : LX.ErrC K mg "NoRatio" e0.CM e0.f
/-! ### words -/
theorem same_upd {H : Hp} {p : Addr} {o : HO} (h : H p = none) : Same H (upd H p o) := fun b x e => by
  rw [upd_ne (ne_of_none e h)]
  exact e
theorem same_over {H H' : Hp} {p : Addr} {o : HO} (s : Same H H') (h : H p = none) : Same H (upd H' p o) := fun b x e => by
  rw [upd_ne (ne_of_none e h)]
  exact s _ _ e
theorem Same.seqT {K : PySem.W.Frag} {H H' : Hp} {a : Addr} {xs : List V} (e : Same H H') (h : SqT K H a xs) : SqT K H' a xs := by
  rcases h with (h | ⟨o, h⟩) | h
  · exact .inl (.inl (e _ _ h))
  · exact .inl (.inr ⟨o, e _ _ h⟩)
  · exact .inr h
/-- a list of ints stands at a -/
def IL (H : Hp) (a : Addr) (ns : List Int) : Prop := H a = some (.lst (ns.map V.int))
theorem IL.sq {K : PySem.W.Frag} {H : Hp} {a : Addr} {ns : List Int} (h : IL H a ns) : SqL K H a (ns.map V.int) := SqL.of h
theorem IL.same {H H' : Hp} {a : Addr} {ns : List Int} (h : IL H a ns) (s : Same H H') : IL H' a ns := s _ _ h
theorem il_upd {H : Hp} {p : Addr} {ns : List Int} : IL (upd H p (.lst (ns.map V.int))) p ns := upd_same
theorem app_ints {ds : List Int} {x : Int} : ds.map V.int ++ [V.int x] = (ds ++ [x]).map V.int := by rw [List.map_append]; rfl
theorem small {n : Nat} (h : n ≤ 60000) : n ≤ sizeLine := Nat.le_trans h (by decide)
theorem small' {n : Nat} (h : n < 60000) : n < sizeLine := Nat.lt_of_lt_of_le h (by decide)
def cf (ns : List Int) (m : Nat) : Int := ns.getD m 0
theorem at_map' {ns : List Int} {i : Int} {m : Nat} (e : i = (m : Int)) (h : m < ns.length) : atI (ns.map V.int) i = some (V.int (cf ns m)) := by
  rw [e]
  refine atI_nat ?_
  rw [List.getElem?_map, show ns[m]? = some (cf ns m) by unfold cf; rw [List.getD_eq_getElem?_getD, List.getElem?_eq_getElem h]; rfl]; rfl
/-- a fraction's pair -/
abbrev TP (K : PySem.W.Frag) (H : Hp) (a : Addr) (n d : Int) : Prop := SqT K H a [.int n, .int d]
def dP (n d : Int) : PyData := .tuple [.int n, .int d]
theorem TP.dp {K : PySem.W.Frag} {H : Hp} {a : Addr} {n d : Int} (h : TP K H a n d) : Dp K H (.ref a) (dP n d) := .tup h (.cons (.int n) (.cons (.int d) .nil))
theorem eqv_self {x : PyData} (h : x.canLay0 = true) : PyData.eqv x x = true := SeqAt.eqv_refl _ h
theorem shaped_dP (n d : Int) : SeqAt.shaped (dP n d) = true := rfl
theorem eqv_dP (n d : Int) : PyData.eqv (dP n d) (dP n d) = true := SeqAt.eqv_refl _ (SeqAt.canLay_of_shaped (shaped_dP n d))
-- D66
section
variable {P : Program} {w : World} {K : PySem.W.Frag} {mg : Str → Option Value} {base : Heap}
/-! ### what a law draws -/
def sp_law_draws (K : PySem.W.Frag) : Sp := fun vs H Q _ => ∃ (a : Addr) (ns : List Int), vs = [.ref a] ∧ SqL K H a (ns.map V.int) ∧ ns.length ≤ 63 ∧ ∀ H' p ds, Same H H' → H p = none → IL H' p ds → ds.length ≤ 4000 → Q (.ref p) H'
theorem ok_law_draws (T : Txt K mg) : FnOk P w K mg base CX0 1 T.law_draws.a T.law_draws.fd ["script"] (sp_law_draws K) := by
  refine T.law_draws.F.ok sc_law_draws (fun vs H Q E h => ?_) (fun cdv A outer s H vs Q E hr h => ?_)
  · obtain ⟨a, ns, rfl, _⟩ := h
    rfl
  · obtain ⟨a, ns, rfl, ha, hl, q⟩ := h
    refine ⟨_, (pss_cons (ps_set (i := 1) sc_law_draws.nd rfl (.inl rfl) (pe_lst pa_nil))
      (pss_cons (ps_for PassesOwn.never rfl (pi_range1 (by rfl) T.m_range (pa_cons (pe_callB (call_min2 rfl) (by rfl) T.m_min (by decide +kernel) (pa_cons pe_int (pa_cons (pe_callB call_len_seq (by rfl) T.m_len (by decide +kernel) (pa_cons (pv 0) pa_nil)) pa_nil))) pa_nil)) (pg_name (i := 2) sc_law_draws.nd rfl (.inl rfl))
        (pss_cons (ps_set (i := 3) sc_law_draws.nd rfl (.inl rfl) (pe_callB call_abs (by rfl) T.m_abs (by decide +kernel) (pa_cons (pe_ix ix_list (pv 0) (pv 2) (fun _ _ => rfl)) pa_nil)))
        (pss_one (ps_if (pt_cmpR op_ge (pv 3) (pe_op op_pow pe_int pe_int) (nomark _))
          (pss_one (ps_for PassesOwn.never rfl (pi_range1 (by rfl) T.m_range (pa_cons pe_int pa_nil)) (pg_name (i := 4) sc_law_draws.nd rfl (.inl rfl))
            (pss_one (ps_if (pt_cmpR op_gt (pv 3) pe_int (nomark _))
              (pss_cons (ps_expr (pe_bm PySem.F.plainAttrs_list PySem.F.slot_list_append PySem.F.type_list_append mt_append (pv 1) (pa_cons (pe_op op_mod (pe_callTy call_int1 (by rfl) T.m_int (by decide +kernel) (pa_cons (pv 3) pa_nil)) pe_int) pa_nil)))
              (pss_one (ps_set (i := 3) sc_law_draws.nd rfl (.inl rfl) (pe_op op_fdiv (pv 3) pe_int))))
              pss_nil))))
          (pss_cons (ps_set (i := 5) sc_law_draws.nd rfl (.inl rfl) (pe_op op_mod (pe_callTy call_int1 (by rfl) T.m_int (by decide +kernel) (pa_cons (pe_op op_add (pe_op op_mul (pv 3) pe_int) (pe_op op_mul (pe_op op_add (pv 2) pe_int) pe_int)) pa_nil)) pe_int))
          (pss_cons (ps_set (i := 5) sc_law_draws.nd rfl (.inl rfl) (pe_op op_mod (pe_callTy call_int1 (by rfl) T.m_int (by decide +kernel) (pa_cons (pe_op op_add (pe_op op_add (pe_op op_mul (pv 5) pe_int) (pe_op op_mul pe_int (pv 2))) pe_int) pa_nil)) pe_int))
          (pss_cons (ps_expr (pe_bm PySem.F.plainAttrs_list PySem.F.slot_list_append PySem.F.type_list_append mt_append (pv 1) (pa_cons (pe_op op_mod (pe_callTy call_int1 (by rfl) T.m_int (by decide +kernel) (pa_cons (pv 5) pa_nil)) pe_int) pa_nil)))
          (pss_one (ps_expr (pe_bm PySem.F.plainAttrs_list PySem.F.slot_list_append PySem.F.type_list_append mt_append (pv 1) (pa_cons (pe_op op_mod (pe_callTy call_int1 (by rfl) T.m_int (by decide +kernel) (pa_cons (pe_op op_fdiv (pv 5) pe_int) pa_nil)) pe_int) pa_nil)))))))))))
      (pss_one (ps_ret (pv 1))))), ?_⟩
    refine ⟨Nat.zero_le _, fun p hp => ?_⟩
    have s0 := same_upd (o := .lst []) hp
    obtain ⟨L, hL, eL⟩ : ∃ L : Nat, L ≤ ns.length ∧ L ≤ 63 ∧ (if ((ns.map V.int).length : Int) < 63 then ((ns.map V.int).length : Int) else 63) = (L : Int) := by
      refine ⟨min ns.length 63, Nat.min_le_left _ _, Nat.min_le_right _ _, ?_⟩
      rw [List.length_map]
      split <;> omega
    refine ⟨.ref a, rfl, a, _, rfl, .inl (s0.seq ha), 63, _, rfl, (L : Int), congrArg (fun z => [V.int z]) eL.2, by omega, by omega, ?_⟩
    refine for_range (n := (L : Int).toNat) (lo := 0) (fun i σ H' => Same H H' ∧ ∃ ds v2 v3 v4 v5, σ = [some (.ref a), some (.ref p), v2, v3, v4, v5] ∧ IL H' p ds ∧ ds.length ≤ 60 * i) ⟨s0, [], none, none, none, none, rfl, upd_same, Nat.zero_le _⟩ (fun i σ H' hi hP => ?_) (fun σ H' hP => ?_)
    · obtain ⟨sm, ds, v2, v3, v4, v5, rfl, hd, hn⟩ := hP
      have hi' : i < ns.length := by omega
      refine ⟨.ref a, rfl, _, rfl, a, _, _, _, rfl, rfl, sm.seq ha, at_map' (m := i) (by omega) hi', _, rfl, ?_⟩
      obtain ⟨r, hr1, er⟩ : ∃ r : Int, 0 ≤ r ∧ (if cf ns i < 0 then -cf ns i else cf ns i) = r := ⟨_, by split <;> omega, rfl⟩
      rw [er]
      refine ⟨_, rfl, _, _, rfl, rfl, ⟨by decide, by decide, by decide⟩, _, _, rfl, rfl, _, rfl, ?_⟩
      refine ite2 (fun _ => ?_) (fun hlt => ?_)
      · refine ⟨60, rfl, by decide, by decide, ?_⟩
        refine for_range (n := 60) (lo := 0) (fun j σ H' => Same H H' ∧ ∃ ds v2 v4 v5 r, σ = [some (.ref a), some (.ref p), v2, some (.int r), v4, v5] ∧ 0 ≤ r ∧ IL H' p ds ∧ ds.length ≤ 60 * i + j) ⟨sm, ds, _, _, _, r, rfl, hr1, hd, hn⟩ (fun j σ H' hj hP => ?_) (fun σ H' hP => ?_)
        · obtain ⟨sm, ds, v2, v4, v5, r, rfl, hr1, hd, hn⟩ := hP
          refine ⟨_, rfl, _, _, rfl, rfl, _, rfl, ?_⟩
          refine ite2 (fun _ => ?_) (fun _ => ⟨sm, ds, _, _, _, r, rfl, hr1, hd, by omega⟩)
          refine ⟨.ref p, rfl, .inl ⟨rfl, _, hd.sq⟩, _, rfl, .inl ⟨_, rfl, _, _, rfl, rfl, (by show (0 : Int) < _; decide), p, _, _, rfl, rfl, hd, by rw [List.length_map]; exact small' (by omega), ?_⟩⟩
          rw [app_ints]
          refine ⟨_, rfl, _, _, rfl, rfl, ⟨by decide, by decide⟩, ?_⟩
          exact ⟨same_over sm hp, _, _, _, _, _, rfl, by omega, il_upd, by rw [List.length_append]; show _ + 1 ≤ _; omega⟩
        · obtain ⟨sm, ds, v2, v4, v5, r, rfl, hr1, hd, hn⟩ := hP
          exact ⟨sm, ds, _, _, _, _, rfl, hd, by omega⟩
      · have hr2 : r < 10 ^ 18 := by
          have e : ((10 : Int) ^ (18 : Int).toNat) = 10 ^ 18 := rfl
          rw [e] at hlt
          have := of_decide_eq_false (Bool.eq_false_iff.mpr hlt)
          omega
        refine ⟨_, rfl, _, _, rfl, rfl, .inl ⟨by omega, by omega⟩, _, rfl, _, _, rfl, rfl, _, _, rfl, rfl, .inr ⟨by decide, by decide⟩, _, _, rfl, rfl, .inl ⟨_, rfl, _, _, rfl, rfl, (by show (0 : Int) < _; decide), ?_⟩⟩
        refine ⟨_, rfl, _, _, rfl, rfl, .inr ⟨by decide, by decide⟩, _, rfl, _, _, rfl, rfl, .inl ⟨by decide, by decide⟩, _, _, rfl, rfl, _, _, rfl, rfl, .inl ⟨_, rfl, _, _, rfl, rfl, (by show (0 : Int) < _; decide), ?_⟩⟩
        refine ⟨.ref p, rfl, .inl ⟨rfl, _, hd.sq⟩, _, rfl, .inl ⟨_, rfl, _, _, rfl, rfl, (by show (0 : Int) < _; decide), p, _, _, rfl, rfl, hd, by rw [List.length_map]; exact small' (by omega), ?_⟩⟩
        rw [app_ints]
        refine ⟨.ref p, rfl, .inl ⟨rfl, _, il_upd.sq⟩, _, rfl, _, _, rfl, rfl, ⟨by decide, by decide⟩, .inl ⟨_, rfl, _, _, rfl, rfl, (by show (0 : Int) < _; decide), p, _, _, rfl, rfl, il_upd, by rw [List.length_map, List.length_append]; exact small' (by show _ + 1 < _; omega), ?_⟩⟩
        rw [app_ints]
        exact ⟨same_over (same_over sm hp) hp, _, _, _, _, _, rfl, il_upd, by rw [List.length_append, List.length_append]; show _ + 1 + 1 ≤ _; omega⟩
    · obtain ⟨sm, ds, v2, v3, v4, v5, rfl, hd, hn⟩ := hP
      exact ⟨_, rfl, q H' p ds sm hp hd (by omega)⟩
def sp_law_mix : Sp := fun vs H Q _ => ∃ (a : Addr) (ds : List Int) (k many : Int), vs = [.ref a, .int k, .int many] ∧ IL H a ds ∧ 0 ≤ k ∧ 0 < many ∧ ∀ r, 0 ≤ r → r < many → Q (.int r) H
theorem ok_law_mix (T : Txt K mg) : FnOk P w K mg base CX0 1 T.law_mix.a T.law_mix.fd ["draws", "k", "many"] sp_law_mix := by
  refine T.law_mix.F.ok sc_law_mix (fun vs H Q E h => ?_) (fun cdv A outer s H vs Q E hr h => ?_)
  · obtain ⟨a, ds, k, m, rfl, _⟩ := h
    rfl
  · obtain ⟨a, ds, k, m, rfl, ha, hk, hm, q⟩ := h
    have qq : ∀ z : Int, Q (.int (z % m)) H := fun z => q _ (Int.emod_nonneg _ (by omega)) (Int.emod_lt_of_pos _ hm)
    refine ⟨_, (pss_cons (ps_set (i := 3) sc_law_mix.nd rfl (.inl rfl) pe_int)
      (pss_cons (ps_if (pt_cmpR op_gt (pe_callB call_len_seq (by rfl) T.m_len (by decide +kernel) (pa_cons (pv 0) pa_nil)) pe_int (nomark _))
        (pss_one (ps_set (i := 3) sc_law_mix.nd rfl (.inl rfl) (pe_ix ix_list (pv 0) (pe_op op_mod (pe_callTy call_int1 (by rfl) T.m_int (by decide +kernel) (pa_cons (pv 1) pa_nil)) (pe_callB call_len_seq (by rfl) T.m_len (by decide +kernel) (pa_cons (pv 0) pa_nil))) (fun _ _ => rfl))))
        pss_nil)
      (pss_cons (ps_if (pt_cmpR op_lt (pv 1) (pe_callB call_len_seq (by rfl) T.m_len (by decide +kernel) (pa_cons (pv 0) pa_nil)) (nomark _))
        (pss_one (ps_ret (pe_op op_mod (pe_callTy call_int1 (by rfl) T.m_int (by decide +kernel) (pa_cons (pv 3) pa_nil)) (pv 2))))
        pss_nil)
      (pss_one (ps_ret (pe_op op_mod (pe_callTy call_int1 (by rfl) T.m_int (by decide +kernel) (pa_cons (pe_op op_fdiv (pe_callTy call_int1 (by rfl) T.m_int (by decide +kernel) (pa_cons (pe_op op_add (pe_op op_mul (pv 3) pe_int) (pe_op op_mul (pv 1) pe_int)) pa_nil)) pe_int) pa_nil)) (pv 2))))))), ?_⟩
    refine ⟨.ref a, rfl, a, _, rfl, .inl ha.sq, _, _, rfl, rfl, _, rfl, ?_⟩
    rw [List.length_map]
    refine ite2 (fun h => ?_) (fun h => ?_)
    · have hp : 0 < ds.length := by have := of_decide_eq_true h; omega
      obtain ⟨n, hn, en⟩ : ∃ n : Nat, n < ds.length ∧ k % (ds.length : Int) = (n : Int) := ⟨(k % (ds.length : Int)).toNat, by have := Int.emod_nonneg k (show (ds.length : Int) ≠ 0 by omega); have := Int.emod_lt_of_pos k (show (0 : Int) < ds.length by omega); omega, by have := Int.emod_nonneg k (show (ds.length : Int) ≠ 0 by omega); omega⟩
      refine ⟨.ref a, rfl, _, rfl, .inl ⟨_, rfl, .ref a, rfl, a, _, rfl, .inl ha.sq, _, _, rfl, rfl, (by show (0 : Int) < _; rw [List.length_map]; omega), a, _, _, _, rfl, rfl, ha.sq, at_map' (m := n) (by rw [List.length_map]; exact en) hn, ?_⟩⟩
      refine ⟨_, rfl, .ref a, rfl, a, _, rfl, .inl ha.sq, _, _, rfl, rfl, _, rfl, ?_⟩
      refine ite2 (fun _ => ?_) (fun _ => ?_)
      · exact ⟨_, rfl, .inl ⟨_, rfl, _, rfl, _, _, rfl, rfl, hm, qq _⟩⟩
      · exact ⟨_, rfl, _, _, rfl, rfl, .inr ⟨by decide, by decide⟩, _, rfl, _, _, rfl, rfl, .inr ⟨by decide, by decide⟩, _, _, rfl, rfl, .inl ⟨_, rfl, _, _, rfl, rfl, ⟨by decide, by decide⟩, .inl ⟨_, rfl, _, rfl, _, _, rfl, rfl, hm, qq _⟩⟩⟩
    · refine ⟨_, rfl, .ref a, rfl, a, _, rfl, .inl ha.sq, _, _, rfl, rfl, _, rfl, ?_⟩
      refine ite2 (fun _ => ?_) (fun _ => ?_)
      · exact ⟨_, rfl, .inl ⟨_, rfl, _, rfl, _, _, rfl, rfl, hm, qq _⟩⟩
      · exact ⟨_, rfl, _, _, rfl, rfl, .inr ⟨by decide, by decide⟩, _, rfl, _, _, rfl, rfl, .inr ⟨by decide, by decide⟩, _, _, rfl, rfl, .inl ⟨_, rfl, _, _, rfl, rfl, ⟨by decide, by decide⟩, .inl ⟨_, rfl, _, rfl, _, _, rfl, rfl, hm, qq _⟩⟩⟩
/-- the greatest common divisor -/
def sp_law_common : Sp := fun vs H Q _ => ∃ n d : Int, vs = [.int n, .int d] ∧ n.natAbs < 2 ^ 64 ∧ d.natAbs < 2 ^ 64 ∧ Q (.int (gc n d)) H
theorem abs_is (n : Int) : (if n < 0 then -n else n) = ((n.natAbs : Nat) : Int) := by split <;> omega
theorem ok_law_common (T : Txt K mg) : FnOk P w K mg base CX0 1 T.law_common.a T.law_common.fd ["one", "two"] sp_law_common := by
  refine T.law_common.F.ok sc_law_common (fun vs H Q E h => ?_) (fun cdv A outer s H vs Q E hr h => ?_)
  · obtain ⟨n, d, rfl, _⟩ := h
    rfl
  · obtain ⟨n, d, rfl, hn, hd, q⟩ := h
    refine ⟨_, (pss_cons (ps_set (i := 0) sc_law_common.nd rfl (.inl rfl) (pe_callB call_abs (by rfl) T.m_abs (by decide +kernel) (pa_cons (pv 0) pa_nil)))
      (pss_cons (ps_set (i := 1) sc_law_common.nd rfl (.inl rfl) (pe_callB call_abs (by rfl) T.m_abs (by decide +kernel) (pa_cons (pv 1) pa_nil)))
      (pss_cons (ps_for PassesOwn.never rfl (pi_range1 (by rfl) T.m_range (pa_cons pe_int pa_nil)) (pg_name (i := 2) sc_law_common.nd rfl (.inl rfl))
        (pss_cons (ps_if (pt_cmpR op_eq (pv 1) pe_int (nomark _))
          (pss_one (ps_ret (pv 0)))
          pss_nil)
        (pss_cons (ps_set (i := 3) sc_law_common.nd rfl (.inl rfl) (pe_op op_mod (pe_callTy call_int1 (by rfl) T.m_int (by decide +kernel) (pa_cons (pv 0) pa_nil)) (pv 1)))
        (pss_cons (ps_set (i := 0) sc_law_common.nd rfl (.inl rfl) (pv 1))
        (pss_one (ps_set (i := 1) sc_law_common.nd rfl (.inl rfl) (pv 3)))))))
      (pss_one (ps_ret (pv 0)))))), ?_⟩
    refine ⟨_, rfl, _, rfl, _, rfl, _, rfl, ?_⟩
    rw [abs_is, abs_is]
    have hB : n.natAbs * d.natAbs ≤ 2 ^ 64 * 2 ^ 64 := Nat.mul_le_mul (Nat.le_of_lt hn) (Nat.le_of_lt hd)
    refine ⟨20000, rfl, by decide, by decide, ?_⟩
    refine for_range (n := 20000) (lo := 0) (fun i σ H' => H' = H ∧ ∃ (x y : Nat) (v2 v3 : Option V), σ = [some (.int (x : Int)), some (.int (y : Int)), v2, v3] ∧ Nat.gcd x y = Nat.gcd n.natAbs d.natAbs ∧ Euc (2 ^ 64 * 2 ^ 64) i x y) ⟨rfl, n.natAbs, d.natAbs, none, none, rfl, rfl, .inl ⟨rfl, hB⟩⟩ (fun i σ H' hi hP => ?_) (fun σ H' hP => ?_)
    · obtain ⟨rfl, x, y, v2, v3, rfl, hg, he⟩ := hP
      refine ⟨_, rfl, rfl, _, rfl, ?_⟩
      refine ite2 (fun h => ?_) (fun h => ?_)
      · have hy : y = 0 := by have := V.int.inj (of_decide_eq_true h); omega
        subst hy
        rw [Nat.gcd_zero_right] at hg
        refine ⟨_, rfl, ?_⟩
        rw [hg]
        exact q
      · have hy : y ≠ 0 := fun z => h (by rw [z]; rfl)
        refine ⟨_, rfl, .inl ⟨_, rfl, _, rfl, _, _, rfl, rfl, (by show (0 : Int) < _; omega), ?_⟩⟩
        exact ⟨_, rfl, _, rfl, rfl, y, x % y, some (.int (0 + (i : Int))), some (.int ((x : Int) % (y : Int))), rfl, (gcd_turn x y).trans hg, euc_step he hy⟩
    · obtain ⟨rfl, x, y, v2, v3, rfl, hg, he⟩ := hP
      have hy := euc_end he (by decide) (by decide +kernel)
      subst hy
      rw [Nat.gcd_zero_right] at hg
      refine ⟨_, rfl, ?_⟩
      rw [hg]
      exact q
end
-- P66
section
variable {P : Program} {w : World} {K : PySem.W.Frag} {mg : Str → Option Value} {base : Heap}
/-! ### the errors -/
theorem len_app (a b : Str) : (a ++ b).length = a.length + b.length := by
  show (a.cps ++ b.cps).size = a.cps.size + b.cps.size
  exact Array.size_append
theorem small2 {x : Nat} (h : x ≤ 2000) : x ≤ sizeLine := Nat.le_trans h (by decide)
def sp_wording : Sp := fun vs H Q _ => ∃ (nm : Str) (i : Int), vs = [.str nm, .int i] ∧ nm.length ≤ 1000 ∧ i.natAbs < 10 ^ 12 ∧ ∀ t : Str, Q (.str t) H
theorem ok_wording (T : Txt K mg) : FnOk P w K mg base CX0 1 T.wording.a T.wording.fd ["name", "at"] sp_wording := by
  refine T.wording.F.ok sc_wording (fun vs H Q E h => ?_) (fun cdv A outer s H vs Q E hr h => ?_)
  · obtain ⟨nm, i, rfl, _⟩ := h
    rfl
  · obtain ⟨nm, i, rfl, hn, h1, q⟩ := h
    refine ⟨_, (pss_cons (ps_if (pt_cmpR op_gt (pe_bits (pv 1)) pe_int (nomark _))
        (pss_one (ps_ret (pe_joined (.cons (pe_fmt (pv 0)) (.cons pe_str (.cons (pe_fmt (pe_bits (pv 1))) (.cons pe_str .nil)))))))
        pss_nil)
      (pss_one (ps_ret (pe_joined (.cons (pe_fmt (pv 0)) (.cons pe_str (.cons (pe_fmt (pv 1)) .nil))))))), ?_⟩
    have e : i.natAbs < 2 ^ 40 := Nat.lt_of_lt_of_le h1 (by decide)
    have hb := LX.bits_le e
    refine ⟨_, rfl, i, rfl, _, _, rfl, rfl, _, rfl, ?_⟩
    rw [decide_eq_false (by omega)]
    have lt : (Str.ofString (toString i)).length ≤ 13 := LX.text_len (by decide) h1
    refine iteF ⟨_, rfl, .inl ⟨nm, rfl, small2 (by omega), nm, rfl, ?_, _, rfl, ?_, _, rfl, .inr ⟨i, rfl, ?_, _, rfl, ?_, q _⟩⟩⟩
    · rw [len_app]; exact small2 (by show 0 + _ ≤ _; omega)
    · rw [len_app, len_app]; exact small2 (by show 0 + _ + 4 ≤ _; omega)
    · exact Nat.lt_of_lt_of_le (PySem.Flt.log2_lt_of (by decide) e) (by decide)
    · rw [len_app, len_app, len_app]; exact small2 (by show 0 + _ + 4 + _ ≤ _; omega)
theorem ok_init (T : Txt K mg) (X : Errs K mg) : FnOk P w K mg base CX0 2 X.e0.f X.e0.fd ["self", "at"] (LX.sp_init K) := by
  refine X.e0.F.ok sc_init (fun vs H Q E h => ?_) (fun cdv A outer s H vs Q E hr h => ?_)
  · obtain ⟨e, C, nm, i, rfl, _⟩ := h
    rfl
  · obtain ⟨e, C, nm, i, rfl, he, hn, ho, na, h1, q⟩ := h
    refine ⟨_, pss_cons (ps_expr (pe_veinit (by rfl) X.e0.mV X.e0.vV (pa_cons (pv 0) (pa_cons (pe_call (ok_wording T) (hr.mono (by decide)) (by rfl) T.wording.g T.wording.F.kp T.wording.b .nil pass0 (pa_cons (LX.pe_cn (pv 0)) (pa_cons (pv 1) pa_nil))) pa_nil))))
      (pss_one (ps_ost (pv 0) (pv 1))), ?_⟩
    refine ⟨.ref e, rfl, .ref e, rfl, e, C, nm, rfl, he, hn, _, rfl, nm, i, rfl, hn.sz, h1, fun t => ⟨e, C, _, rfl, by show 1 ≤ 1000; decide, ho, he, ?_⟩⟩
    exact ⟨_, rfl, .ref e, rfl, e, C, rfl, ho, na, .inl ⟨he, fun d hd ne => q d hd ne⟩⟩
/-! ### the program -/
/-- the fraction of two numbers, a new pair -/
def OutP (H : Hp) (Q : VK) (n d : Int) : Prop := ∀ p, H p = none → Q (.ref p) (upd H p (.tup [.int (n.fdiv (sg n d)), .int (d.fdiv (sg n d))]))
theorem div_ok {n d : Int} (h : d ≠ 0) (hd : d.natAbs < 2 ^ 64) : LX.CDivWN n (sg n d) ∧ LX.CDivWN d (sg n d) := by
  have h1 := sg_ne (n := n) h
  have h2 := Nat.lt_of_le_of_lt (sg_le (n := n) h) hd
  have h3 := Nat.lt_of_lt_of_le (PySem.Flt.log2_lt_of (by decide) h2) (by decide : 64 ≤ 9000)
  exact ⟨⟨h1, h3⟩, ⟨h1, h3⟩⟩
def sp_lowest : Sp := fun vs H Q _ => ∃ n d : Int, vs = [.int n, .int d] ∧ d ≠ 0 ∧ n.natAbs < 2 ^ 64 ∧ d.natAbs < 2 ^ 64 ∧ OutP H Q n d
theorem ok_lowest (T : Txt K mg) : FnOk P w K mg base CX0 1 T.lowest.a T.lowest.fd ["n", "d"] sp_lowest := by
  refine T.lowest.F.ok sc_lowest (fun vs H Q E h => ?_) (fun cdv A outer s H vs Q E hr h => ?_)
  · obtain ⟨n, d, rfl, _⟩ := h
    rfl
  · obtain ⟨n, d, rfl, h0, hn, hd, q⟩ := h
    refine ⟨_, (pss_cons (ps_set (i := 2) sc_lowest.nd rfl (.inl rfl) (pe_callBfun cr_gcd (by rfl) T.x_gcd (pa_cons (pv 0) (pa_cons (pv 1) pa_nil))))
      (pss_cons (ps_if (pt_cmpR op_lt (pv 1) pe_int (nomark _))
        (pss_one (ps_set (i := 2) sc_lowest.nd rfl (.inl rfl) (pe_un un_neg (pv 2))))
        pss_nil)
      (pss_one (ps_ret (pe_tup (pa_cons (pe_op LX.op_fdivWN (pv 0) (pv 2)) (pa_cons (pe_op LX.op_fdivWN (pv 1) (pv 2)) pa_nil))))))), ?_⟩
    obtain ⟨c1, c2⟩ := div_ok (n := n) h0 hd
    have q' := q
    unfold OutP at q'
    unfold sg at c1 c2 q'
    refine ⟨_, rfl, _, rfl, n, d, rfl, _, rfl, _, _, rfl, rfl, _, rfl, ?_⟩
    refine ite2 (fun h => ?_) (fun h => ?_)
    · have hlt : d < 0 := of_decide_eq_true h
      rw [if_pos hlt] at c1 c2 q'
      exact ⟨_, rfl, _, rfl, _, rfl, _, rfl, _, _, rfl, rfl, c1, _, rfl, _, rfl, _, _, rfl, rfl, c2, by show 2 ≤ sizeLine; decide, q'⟩
    · have hlt : ¬ d < 0 := fun z => h (decide_eq_true z)
      rw [if_neg hlt] at c1 c2 q'
      exact ⟨_, rfl, _, rfl, _, _, rfl, rfl, c1, _, rfl, _, rfl, _, _, rfl, rfl, c2, by show 2 ≤ sizeLine; decide, q'⟩
theorem ok_law_ratio (T : Txt K mg) : FnOk P w K mg base CX0 2 T.law_ratio.a T.law_ratio.fd ["n", "d"] sp_lowest := by
  refine T.law_ratio.F.ok sc_law_ratio (fun vs H Q E h => ?_) (fun cdv A outer s H vs Q E hr h => ?_)
  · obtain ⟨n, d, rfl, _⟩ := h
    rfl
  · obtain ⟨n, d, rfl, h0, hn, hd, q⟩ := h
    refine ⟨_, (pss_cons (ps_set (i := 2) sc_law_ratio.nd rfl (.inl rfl) (pe_call (ok_law_common T) (hr.mono (by decide)) (by rfl) T.law_common.g T.law_common.F.kp T.law_common.b .nil pass0 (pa_cons (pv 0) (pa_cons (pv 1) pa_nil))))
      (pss_cons (ps_if (pt_cmpR op_lt (pv 1) pe_int (nomark _))
        (pss_one (ps_set (i := 2) sc_law_ratio.nd rfl (.inl rfl) (pe_un un_neg (pv 2))))
        pss_nil)
      (pss_one (ps_ret (pe_tup (pa_cons (pe_op LX.op_fdivWN (pv 0) (pv 2)) (pa_cons (pe_op LX.op_fdivWN (pv 1) (pv 2)) pa_nil))))))), ?_⟩
    obtain ⟨c1, c2⟩ := div_ok (n := n) h0 hd
    have q' := q
    unfold OutP at q'
    unfold sg at c1 c2 q'
    refine ⟨_, rfl, _, rfl, n, d, rfl, hn, hd, _, rfl, _, _, rfl, rfl, _, rfl, ?_⟩
    refine ite2 (fun h => ?_) (fun h => ?_)
    · have hlt : d < 0 := of_decide_eq_true h
      rw [if_pos hlt] at c1 c2 q'
      exact ⟨_, rfl, _, rfl, _, rfl, _, rfl, _, _, rfl, rfl, c1, _, rfl, _, rfl, _, _, rfl, rfl, c2, by show 2 ≤ sizeLine; decide, q'⟩
    · have hlt : ¬ d < 0 := fun z => h (decide_eq_true z)
      rw [if_neg hlt] at c1 c2 q'
      exact ⟨_, rfl, _, rfl, _, _, rfl, rfl, c1, _, rfl, _, rfl, _, _, rfl, rfl, c2, by show 2 ≤ sizeLine; decide, q'⟩
def sp_ratio (C : Addr) : Sp := fun vs H Q E => ∃ n d : Int, vs = [.int n, .int d] ∧ n.natAbs < 2 ^ 30 ∧ d.natAbs < 2 ^ 30 ∧ (d = 0 → ∀ dd, H dd = none → E (.ref C) (some dd) (upd H dd (.xd [("at", .int n)]))) ∧ (d ≠ 0 → OutP H Q n d)
theorem ok_ratio (T : Txt K mg) (X : Errs K mg) : FnOk P w K mg base (L2.CX P w) 4 T.ratio.a T.ratio.fd ["n", "d"] (sp_ratio X.NoRatio.C) := by
  refine T.ratio.F.okX sc_ratio (fun vs H Q E h => ?_) (fun cdv A outer s H vs Q E hr h => ?_)
  · obtain ⟨n, d, rfl, _⟩ := h
    rfl
  · obtain ⟨n, d, rfl, hn, hd, q0, q1⟩ := h
    refine ⟨_, (pss_cons (ps_if (pt_cmpR op_eq (pv 1) pe_int (nomark _))
        (pss_one (ps_raise rfl (takes_of rfl rfl rfl rfl) (pmk_oex X.NoRatio.oex X.NoRatio.iC X.e0.tI (ok_init T X) (hr.mono (by decide)) X.e0.b .nil pass0 (by rfl) X.NoRatio.g (pa_cons (pv 0) pa_nil))))
        pss_nil)
      (pss_one (ps_ret (pe_call (ok_lowest T) (hr.mono (by decide)) (by rfl) T.lowest.g T.lowest.F.kp T.lowest.b .nil pass0 (pa_cons (pv 0) (pa_cons (pv 1) pa_nil)))))), ?_⟩
    refine ⟨_, rfl, rfl, _, rfl, ?_⟩
    refine ite2 (fun h => ?_) (fun h => ?_)
    · have e : d = 0 := V.int.inj (of_decide_eq_true h)
      exact ⟨_, rfl, by show 1 ≤ 1000; decide, LX.raised X.NoRatio (by omega) (q0 e)⟩
    · have e : d ≠ 0 := fun z => h (by rw [z]; rfl)
      exact ⟨_, rfl, _, rfl, n, d, rfl, e, by omega, by omega, q1 e⟩
theorem dec_int (a b : Int) : decide (V.int a = V.int b) = decide (a = b) := by
  by_cases h : a = b
  · rw [h]; simp
  · rw [decide_eq_false h, decide_eq_false fun z => h (V.int.inj z)]
def sp_is_ratio (K : PySem.W.Frag) : Sp := fun vs H Q _ => ∃ (a : Addr) (n d : Int), vs = [.ref a] ∧ TP K H a n d ∧ Q (.bl (decide (0 < d) && decide (gc n d = 1))) H
theorem ok_is_ratio (T : Txt K mg) : FnOk P w K mg base CX0 1 T.is_ratio.a T.is_ratio.fd ["pair"] (sp_is_ratio K) := by
  refine T.is_ratio.F.ok sc_is_ratio (fun vs H Q E h => ?_) (fun cdv A outer s H vs Q E hr h => ?_)
  · obtain ⟨a, n, d, rfl, _⟩ := h
    rfl
  · obtain ⟨a, n, d, rfl, ha, q⟩ := h
    refine ⟨_, (pss_cons (ps_asg (pv 0) (pg_tup rfl (pgs_cons (pg_name (i := 1) sc_is_ratio.nd rfl (.inl rfl)) (pgs_cons (pg_name (i := 2) sc_is_ratio.nd rfl (.inl rfl)) pgs_nil))))
      (pss_one (ps_ret (pe_and (pe_cmpR op_gt (pv 2) pe_int (nomark _)) (pe_one (pe_cmpR op_eq (pe_callBfun cr_gcd (by rfl) T.x_gcd (pa_cons (pv 1) (pa_cons (pv 2) pa_nil))) pe_int (nomark _))))))), ?_⟩
    refine ⟨.ref a, rfl, a, _, rfl, ha, rfl, _, _, rfl, _, _, rfl, rfl, _, rfl, _, _, rfl, rfl, _, rfl, ?_⟩
    refine ite2 (fun h => ?_) (fun h => ?_)
    · refine ⟨_, rfl, _, rfl, n, d, rfl, rfl, ?_⟩
      rw [h, Bool.true_and] at q
      rw [dec_int]
      exact q
    · rw [Bool.eq_false_iff.mpr h, Bool.false_and] at q
      exact q
theorem at0 {x y : V} : atI [x, y] 0 = some x := rfl
theorem at1 {x y : V} : atI [x, y] 1 = some y := rfl
/-- two fractions of small numbers -/
def sp_two (K : PySem.W.Frag) (f : Int → Int → Int → Int → Int × Int) : Sp := fun vs H Q _ => ∃ (a b : Addr) (n d m e : Int), vs = [.ref a, .ref b] ∧ TP K H a n d ∧ TP K H b m e ∧ n.natAbs < 2 ^ 22 ∧ d.natAbs < 2 ^ 22 ∧ m.natAbs < 2 ^ 22 ∧ e.natAbs < 2 ^ 22 ∧ d ≠ 0 ∧ e ≠ 0 ∧
  OutP H Q (f n d m e).1 (f n d m e).2
theorem mulB {i j : Int} (hi : i.natAbs < 2 ^ 22) (hj : j.natAbs < 2 ^ 22) : CMulW i j ∧ (i * j).natAbs < 2 ^ 44 := ⟨wide_mul hi hj (by decide) (by decide) (by decide), wide_lt hi hj⟩
theorem mul0 {i j : Int} (hi : i ≠ 0) (hj : j ≠ 0) : i * j ≠ 0 := Int.mul_ne_zero hi hj
theorem ok_plus (T : Txt K mg) : FnOk P w K mg base CX0 2 T.plus.a T.plus.fd ["one", "two"] (sp_two K fun n d m e => (n * e + m * d, d * e)) := by
  refine T.plus.F.ok sc_plus (fun vs H Q E h => ?_) (fun cdv A outer s H vs Q E hr h => ?_)
  · obtain ⟨a, b, n, d, m, e, rfl, _⟩ := h
    rfl
  · obtain ⟨a, b, n, d, m, e, rfl, ha, hb, hn, hd, hm, he, d0, e0, q⟩ := h
    refine ⟨_, (pss_one (ps_ret (pe_call (ok_lowest T) (hr.mono (by decide)) (by rfl) T.lowest.g T.lowest.F.kp T.lowest.b .nil pass0 (pa_cons (pe_op op_add (pe_op op_mulW (pe_ix ix_tup (pv 0) pe_int (fun _ _ => rfl)) (pe_ix ix_tup (pv 1) pe_int (fun _ _ => rfl))) (pe_op op_mulW (pe_ix ix_tup (pv 1) pe_int (fun _ _ => rfl)) (pe_ix ix_tup (pv 0) pe_int (fun _ _ => rfl)))) (pa_cons (pe_op op_mulW (pe_ix ix_tup (pv 0) pe_int (fun _ _ => rfl)) (pe_ix ix_tup (pv 1) pe_int (fun _ _ => rfl))) pa_nil))))), ?_⟩
    have b1 := mulB hn he
    have b2 := mulB hm hd
    have b3 := mulB hd he
    exact ⟨_, rfl, a, _, _, _, rfl, rfl, ha, at0, _, rfl, b, _, _, _, rfl, rfl, hb, at1, _, _, rfl, rfl, b1.1,
      _, rfl, b, _, _, _, rfl, rfl, hb, at0, _, rfl, a, _, _, _, rfl, rfl, ha, at1, _, _, rfl, rfl, b2.1, _, _, rfl, rfl,
      _, rfl, a, _, _, _, rfl, rfl, ha, at1, _, rfl, b, _, _, _, rfl, rfl, hb, at1, _, _, rfl, rfl, b3.1, _, _, rfl, mul0 d0 e0, by omega, by omega, q⟩
theorem ok_minus (T : Txt K mg) : FnOk P w K mg base CX0 2 T.minus.a T.minus.fd ["one", "two"] (sp_two K fun n d m e => (n * e - m * d, d * e)) := by
  refine T.minus.F.ok sc_minus (fun vs H Q E h => ?_) (fun cdv A outer s H vs Q E hr h => ?_)
  · obtain ⟨a, b, n, d, m, e, rfl, _⟩ := h
    rfl
  · obtain ⟨a, b, n, d, m, e, rfl, ha, hb, hn, hd, hm, he, d0, e0, q⟩ := h
    refine ⟨_, (pss_one (ps_ret (pe_call (ok_lowest T) (hr.mono (by decide)) (by rfl) T.lowest.g T.lowest.F.kp T.lowest.b .nil pass0 (pa_cons (pe_op op_sub (pe_op op_mulW (pe_ix ix_tup (pv 0) pe_int (fun _ _ => rfl)) (pe_ix ix_tup (pv 1) pe_int (fun _ _ => rfl))) (pe_op op_mulW (pe_ix ix_tup (pv 1) pe_int (fun _ _ => rfl)) (pe_ix ix_tup (pv 0) pe_int (fun _ _ => rfl)))) (pa_cons (pe_op op_mulW (pe_ix ix_tup (pv 0) pe_int (fun _ _ => rfl)) (pe_ix ix_tup (pv 1) pe_int (fun _ _ => rfl))) pa_nil))))), ?_⟩
    have b1 := mulB hn he
    have b2 := mulB hm hd
    have b3 := mulB hd he
    exact ⟨_, rfl, a, _, _, _, rfl, rfl, ha, at0, _, rfl, b, _, _, _, rfl, rfl, hb, at1, _, _, rfl, rfl, b1.1,
      _, rfl, b, _, _, _, rfl, rfl, hb, at0, _, rfl, a, _, _, _, rfl, rfl, ha, at1, _, _, rfl, rfl, b2.1, _, _, rfl, rfl,
      _, rfl, a, _, _, _, rfl, rfl, ha, at1, _, rfl, b, _, _, _, rfl, rfl, hb, at1, _, _, rfl, rfl, b3.1, _, _, rfl, mul0 d0 e0, by omega, by omega, q⟩
theorem ok_times (T : Txt K mg) : FnOk P w K mg base CX0 2 T.times.a T.times.fd ["one", "two"] (sp_two K fun n d m e => (n * m, d * e)) := by
  refine T.times.F.ok sc_times (fun vs H Q E h => ?_) (fun cdv A outer s H vs Q E hr h => ?_)
  · obtain ⟨a, b, n, d, m, e, rfl, _⟩ := h
    rfl
  · obtain ⟨a, b, n, d, m, e, rfl, ha, hb, hn, hd, hm, he, d0, e0, q⟩ := h
    refine ⟨_, (pss_one (ps_ret (pe_call (ok_lowest T) (hr.mono (by decide)) (by rfl) T.lowest.g T.lowest.F.kp T.lowest.b .nil pass0 (pa_cons (pe_op op_mulW (pe_ix ix_tup (pv 0) pe_int (fun _ _ => rfl)) (pe_ix ix_tup (pv 1) pe_int (fun _ _ => rfl))) (pa_cons (pe_op op_mulW (pe_ix ix_tup (pv 0) pe_int (fun _ _ => rfl)) (pe_ix ix_tup (pv 1) pe_int (fun _ _ => rfl))) pa_nil))))), ?_⟩
    have b1 := mulB hn hm
    have b3 := mulB hd he
    exact ⟨_, rfl, a, _, _, _, rfl, rfl, ha, at0, _, rfl, b, _, _, _, rfl, rfl, hb, at0, _, _, rfl, rfl, b1.1,
      _, rfl, a, _, _, _, rfl, rfl, ha, at1, _, rfl, b, _, _, _, rfl, rfl, hb, at1, _, _, rfl, rfl, b3.1, _, _, rfl, mul0 d0 e0, by omega, by omega, q⟩
def sp_over (K : PySem.W.Frag) (C : Addr) : Sp := fun vs H Q E => ∃ (a b : Addr) (m e : Int), vs = [.ref a, .ref b] ∧ TP K H b m e ∧ (m = 0 → ∀ dd, H dd = none → E (.ref C) (some dd) (upd H dd (.xd [("at", .int 0)]))) ∧
  (m ≠ 0 → ∃ n d, TP K H a n d ∧ n.natAbs < 2 ^ 22 ∧ d.natAbs < 2 ^ 22 ∧ m.natAbs < 2 ^ 22 ∧ e.natAbs < 2 ^ 22 ∧ d ≠ 0 ∧ OutP H Q (n * e) (d * m))
theorem ok_over (T : Txt K mg) (X : Errs K mg) : FnOk P w K mg base (L2.CX P w) 4 T.over.a T.over.fd ["one", "two"] (sp_over K X.NoRatio.C) := by
  refine T.over.F.okX sc_over (fun vs H Q E h => ?_) (fun cdv A outer s H vs Q E hr h => ?_)
  · obtain ⟨a, b, m, e, rfl, _⟩ := h
    rfl
  · obtain ⟨a, b, m, e, rfl, hb, q0, q1⟩ := h
    refine ⟨_, (pss_cons (ps_if (pt_cmpR op_eq (pe_ix ix_tup (pv 1) pe_int (fun _ _ => rfl)) pe_int (nomark _))
        (pss_one (ps_raise rfl (takes_of rfl rfl rfl rfl) (pmk_oex X.NoRatio.oex X.NoRatio.iC X.e0.tI (ok_init T X) (hr.mono (by decide)) X.e0.b .nil pass0 (by rfl) X.NoRatio.g (pa_cons pe_int pa_nil))))
        pss_nil)
      (pss_one (ps_ret (pe_call (ok_lowest T) (hr.mono (by decide)) (by rfl) T.lowest.g T.lowest.F.kp T.lowest.b .nil pass0 (pa_cons (pe_op op_mulW (pe_ix ix_tup (pv 0) pe_int (fun _ _ => rfl)) (pe_ix ix_tup (pv 1) pe_int (fun _ _ => rfl))) (pa_cons (pe_op op_mulW (pe_ix ix_tup (pv 0) pe_int (fun _ _ => rfl)) (pe_ix ix_tup (pv 1) pe_int (fun _ _ => rfl))) pa_nil)))))), ?_⟩
    refine ⟨_, rfl, b, _, _, _, rfl, rfl, hb, at0, rfl, _, rfl, ?_⟩
    refine ite2 (fun h => ?_) (fun h => ?_)
    · have em : m = 0 := V.int.inj (of_decide_eq_true h)
      exact ⟨by show 1 ≤ 1000; decide, LX.raised X.NoRatio (by decide) (q0 em)⟩
    · have em : m ≠ 0 := fun z => h (by rw [z]; rfl)
      obtain ⟨n, d, ha, hn, hd, hm, he, d0, q⟩ := q1 em
      have b1 := mulB hn he
      have b3 := mulB hd hm
      exact ⟨_, rfl, a, _, _, _, rfl, rfl, ha, at0, _, rfl, b, _, _, _, rfl, rfl, hb, at1, _, _, rfl, rfl, b1.1,
        _, rfl, a, _, _, _, rfl, rfl, ha, at1, _, rfl, b, _, _, _, rfl, rfl, hb, at0, _, _, rfl, rfl, b3.1, _, _, rfl, mul0 d0 em, by omega, by omega, q⟩
end
-- L66
theorem low_bounds {n d : Int} (h : d ≠ 0) : (n.fdiv (sg n d)).natAbs ≤ n.natAbs ∧ (d.fdiv (sg n d)).natAbs ≤ d.natAbs ∧ d.fdiv (sg n d) ≠ 0 := by
  have hs := sg_ne (n := n) h
  have g1 : ∃ k, n = gc n d * k := by
    obtain ⟨k, hk⟩ := Nat.gcd_dvd_left n.natAbs d.natAbs
    have : gc n d ∣ n := Int.ofNat_dvd_left.mpr ⟨k, hk⟩
    exact this
  have g2 : ∃ k, d = gc n d * k := by
    obtain ⟨k, hk⟩ := Nat.gcd_dvd_right n.natAbs d.natAbs
    have : gc n d ∣ d := Int.ofNat_dvd_left.mpr ⟨k, hk⟩
    exact this
  have f : ∀ x : Int, (∃ k, x = gc n d * k) → ∃ k, x = sg n d * k := fun x ⟨k, hk⟩ => by
    unfold sg
    split
    · exact ⟨-k, by rw [Int.neg_mul_neg]; exact hk⟩
    · exact ⟨k, hk⟩
  have le : ∀ x : Int, (∃ k, x = sg n d * k) → (x.fdiv (sg n d)).natAbs ≤ x.natAbs ∧ (x ≠ 0 → x.fdiv (sg n d) ≠ 0) := fun x ⟨k, hk⟩ => by
    have e : x.fdiv (sg n d) = k := by
      have := Int.mul_fdiv_cancel_left k hs
      rw [← hk] at this
      exact this
    rw [e]
    refine ⟨?_, fun h0 hk0 => h0 (by rw [hk, hk0, Int.mul_zero])⟩
    have : x.natAbs = (sg n d).natAbs * k.natAbs := by rw [← Int.natAbs_mul, ← hk]
    have p : 0 < (sg n d).natAbs := by omega
    rw [this]
    exact Nat.le_mul_of_pos_left _ p
  exact ⟨(le n (f n g1)).1, (le d (f d g2)).1, (le d (f d g2)).2 h⟩
section
variable {P : Program} {w : World} {K : PySem.W.Frag} {mg : Str → Option Value} {base : Heap}
theorem menu3 {x y z r : Int} (h0 : 0 ≤ r) (h1 : r < 3) : ∃ t, atI [V.int x, V.int y, V.int z] r = some (.int t) ∧ (t = x ∨ t = y ∨ t = z) := by
  obtain rfl | rfl | rfl : r = 0 ∨ r = 1 ∨ r = 2 := by omega
  · exact ⟨x, rfl, .inl rfl⟩
  · exact ⟨y, rfl, .inr (.inl rfl)⟩
  · exact ⟨z, rfl, .inr (.inr rfl)⟩
theorem menu2 {x y r : Int} (h0 : 0 ≤ r) (h1 : r < 2) : ∃ t, atI [V.int x, V.int y] r = some (.int t) ∧ (t = x ∨ t = y) := by
  obtain rfl | rfl : r = 0 ∨ r = 1 := by omega
  · exact ⟨x, rfl, .inl rfl⟩
  · exact ⟨y, rfl, .inr rfl⟩
def sp_law_integer : Sp := fun vs H Q _ => ∃ (a : Addr) (ds : List Int) (k : Int), vs = [.ref a, .int k] ∧ IL H a ds ∧ 0 ≤ k ∧ ∀ H' x, Same H H' → x.natAbs ≤ 1000000 → Q (.int x) H'
theorem ok_law_integer (T : Txt K mg) : FnOk P w K mg base CX0 2 T.law_integer.a T.law_integer.fd ["draws", "k"] sp_law_integer := by
  refine T.law_integer.F.ok sc_law_integer (fun vs H Q E h => ?_) (fun cdv A outer s H vs Q E hr h => ?_)
  · obtain ⟨a, ds, k, rfl, _⟩ := h
    rfl
  · obtain ⟨a, ds, k, rfl, ha, hk, q⟩ := h
    refine ⟨_, (pss_cons (ps_set (i := 2) sc_law_integer.nd rfl (.inl rfl) (pe_ix ix_list (pe_lst (pa_cons pe_int (pa_cons pe_int (pa_cons pe_int pa_nil)))) (pe_call (ok_law_mix T) (hr.mono (by decide)) (by rfl) T.law_mix.g T.law_mix.F.kp T.law_mix.b .nil pass0 (pa_cons (pv 0) (pa_cons (pv 1) (pa_cons pe_int pa_nil)))) (fun _ _ => rfl)))
      (pss_one (ps_ret (pe_op op_sub (pe_call (ok_law_mix T) (hr.mono (by decide)) (by rfl) T.law_mix.g T.law_mix.F.kp T.law_mix.b .nil pass0 (pa_cons (pv 0) (pa_cons (pe_op op_add (pv 1) pe_int) (pa_cons (pe_op op_add (pe_op op_mul pe_int (pv 2)) pe_int) pa_nil)))) (pv 2))))), ?_⟩
    refine ⟨by show 3 ≤ sizeLine; decide, fun p hp => ?_⟩
    have s0 := same_upd (o := .lst [.int 4, .int 30, .int 1000000]) hp
    refine ⟨.ref a, rfl, _, rfl, a, ds, k, 3, rfl, ha.same s0, hk, by decide, fun r hr0 hr1 => ?_⟩
    obtain ⟨t, ht, hb⟩ := menu3 (x := 4) (y := 30) (z := 1000000) hr0 hr1
    refine ⟨p, _, _, _, rfl, rfl, SqL.of upd_same, ht, ?_⟩
    refine ⟨.ref a, rfl, _, rfl, _, _, rfl, rfl, _, rfl, _, _, rfl, rfl, .inl ⟨by decide, by decide⟩, _, _, rfl, rfl, a, ds, _, _, rfl, ha.same s0, by omega, by omega, fun x hx0 hx1 => ?_⟩
    exact ⟨_, rfl, _, _, rfl, rfl, q _ _ s0 (by omega)⟩
def sp_law_drawn_ratio : Sp := fun vs H Q _ => ∃ (a : Addr) (ds : List Int) (k : Int), vs = [.ref a, .int k] ∧ IL H a ds ∧ 0 ≤ k ∧
  ∀ H' p n d, Same H H' → H p = none → H' p = some (.tup [.int n, .int d]) → n.natAbs < 2 ^ 22 → d.natAbs < 2 ^ 22 → d ≠ 0 → Q (.ref p) H'
theorem ok_law_drawn_ratio (T : Txt K mg) : FnOk P w K mg base CX0 3 T.law_drawn_ratio.a T.law_drawn_ratio.fd ["draws", "k"] sp_law_drawn_ratio := by
  refine T.law_drawn_ratio.F.ok sc_law_drawn_ratio (fun vs H Q E h => ?_) (fun cdv A outer s H vs Q E hr h => ?_)
  · obtain ⟨a, ds, k, rfl, _⟩ := h
    rfl
  · obtain ⟨a, ds, k, rfl, ha, hk, q⟩ := h
    refine ⟨_, (pss_cons (ps_set (i := 2) sc_law_drawn_ratio.nd rfl (.inl rfl) (pe_ix ix_list (pe_lst (pa_cons pe_int (pa_cons pe_int (pa_cons pe_int pa_nil)))) (pe_call (ok_law_mix T) (hr.mono (by decide)) (by rfl) T.law_mix.g T.law_mix.F.kp T.law_mix.b .nil pass0 (pa_cons (pv 0) (pa_cons (pv 1) (pa_cons pe_int pa_nil)))) (fun _ _ => rfl)))
      (pss_cons (ps_set (i := 3) sc_law_drawn_ratio.nd rfl (.inl rfl) (pe_op op_sub (pe_call (ok_law_mix T) (hr.mono (by decide)) (by rfl) T.law_mix.g T.law_mix.F.kp T.law_mix.b .nil pass0 (pa_cons (pv 0) (pa_cons (pe_op op_add (pv 1) pe_int) (pa_cons (pe_op op_add (pe_op op_mul pe_int (pv 2)) pe_int) pa_nil)))) (pv 2)))
      (pss_one (ps_ret (pe_call (ok_law_ratio T) (hr.mono (by decide)) (by rfl) T.law_ratio.g T.law_ratio.F.kp T.law_ratio.b .nil pass0 (pa_cons (pv 3) (pa_cons (pe_op op_add pe_int (pe_call (ok_law_mix T) (hr.mono (by decide)) (by rfl) T.law_mix.g T.law_mix.F.kp T.law_mix.b .nil pass0 (pa_cons (pv 0) (pa_cons (pe_op op_add (pv 1) pe_int) (pa_cons (pe_ix ix_list (pe_lst (pa_cons pe_int (pa_cons (pv 2) pa_nil))) (pe_call (ok_law_mix T) (hr.mono (by decide)) (by rfl) T.law_mix.g T.law_mix.F.kp T.law_mix.b .nil pass0 (pa_cons (pv 0) (pa_cons (pe_op op_add (pv 1) pe_int) (pa_cons pe_int pa_nil)))) (fun _ _ => rfl)) pa_nil))))) pa_nil))))))), ?_⟩
    refine ⟨by show 3 ≤ sizeLine; decide, fun p hp => ?_⟩
    have s0 := same_upd (o := .lst [.int 3, .int 20, .int 1000000]) hp
    refine ⟨.ref a, rfl, _, rfl, a, ds, k, 3, rfl, ha.same s0, hk, by decide, fun r hr0 hr1 => ?_⟩
    obtain ⟨t, ht, hb⟩ := menu3 (x := 3) (y := 20) (z := 1000000) hr0 hr1
    refine ⟨p, _, _, _, rfl, rfl, SqL.of upd_same, ht, ?_⟩
    refine ⟨.ref a, rfl, _, rfl, _, _, rfl, rfl, _, rfl, _, _, rfl, rfl, .inl ⟨by decide, by decide⟩, _, _, rfl, rfl, a, ds, _, _, rfl, ha.same s0, by omega, by omega, fun x hx0 hx1 => ?_⟩
    refine ⟨_, rfl, _, _, rfl, rfl, _, rfl, .ref a, rfl, _, rfl, _, _, rfl, rfl, ?_⟩
    refine ⟨_, rfl, by show 2 ≤ sizeLine; decide, fun o ho => ?_⟩
    have s1 := s0.trans (same_upd (o := .lst [.int 2, .int t]) ho)
    refine ⟨.ref a, rfl, _, rfl, _, _, rfl, rfl, a, ds, _, 2, rfl, ha.same s1, by omega, by decide, fun r2 hr0 hr1 => ?_⟩
    obtain ⟨t2, ht2, hb2⟩ := menu2 (x := 2) (y := t) hr0 hr1
    refine ⟨o, _, _, _, rfl, rfl, SqL.of upd_same, ht2, a, ds, _, _, rfl, ha.same s1, by omega, by omega, fun y hy0 hy1 => ?_⟩
    refine ⟨_, _, rfl, rfl, x - t, 1 + y, rfl, by omega, by omega, by omega, fun m hm => ?_⟩
    obtain ⟨l1, l2, l3⟩ := low_bounds (n := x - t) (d := 1 + y) (by omega)
    refine q _ m _ _ (s1.trans (same_upd hm)) (s1.free hm) upd_same (by omega) (by omega) l3
def sp_law_is_integer : Sp := fun vs H Q _ => ∃ i : Int, vs = [.int i] ∧ Q (.bl true) H
theorem ok_law_is_integer (T : Txt K mg) : FnOk P w K mg base CX0 1 T.law_is_integer.a T.law_is_integer.fd ["actual"] sp_law_is_integer := by
  refine T.law_is_integer.F.ok sc_law_is_integer (fun vs H Q E h => ?_) (fun cdv A outer s H vs Q E hr h => ?_)
  · obtain ⟨i, rfl, _⟩ := h
    rfl
  · obtain ⟨i, rfl, q⟩ := h
    refine ⟨_, (pss_one (ps_ret (pe_and (pe_callB call_isi (by rfl) T.m_isinstance (by decide +kernel) (pa_cons (pv 0) (pa_cons (pe_bltn (v := .ty "int") (by rfl) T.m_int (by decide +kernel) rfl) pa_nil))) (pe_one (pe_not (pe_callB call_isi (by rfl) T.m_isinstance (by decide +kernel) (pa_cons (pv 0) (pa_cons (pe_bltn (v := .ty "bool") (by rfl) T.m_bool (by decide +kernel) rfl) pa_nil)))))))), ?_⟩
    refine ⟨_, rfl, _, _, _, _, _, rfl, .ty "int", .base (.int i), kit_ty (by decide +kernel), true, rfl, ?_⟩
    exact iteT ⟨_, rfl, _, _, _, _, _, rfl, .ty "bool", .base (.int i), kit_ty (by decide +kernel), false, rfl, q⟩
def sp_law_is_same (K : PySem.W.Frag) : Sp := fun vs H Q _ => ∃ (a : Addr) (n d : Int), vs = [.ref a, .int n, .int d] ∧ H a = some (.tup [.int (n.fdiv (sg n d)), .int (d.fdiv (sg n d))]) ∧ d ≠ 0 ∧ n.natAbs < 2 ^ 64 ∧ d.natAbs < 2 ^ 64 ∧ ∀ H', Same H H' → Q (.bl true) H'
theorem ok_law_is_same (T : Txt K mg) : FnOk P w K mg base CX0 3 T.law_is_same.a T.law_is_same.fd ["told", "n", "d"] (sp_law_is_same K) := by
  refine T.law_is_same.F.ok sc_law_is_same (fun vs H Q E h => ?_) (fun cdv A outer s H vs Q E hr h => ?_)
  · obtain ⟨a, n, d, rfl, _⟩ := h
    rfl
  · obtain ⟨a, n, d, rfl, ha, h0, hn, hd, q⟩ := h
    refine ⟨_, (pss_cons (ps_if (PW.pt (pw_or (pt_not (pt_val (pe_callB call_isi (by rfl) T.m_isinstance (by decide +kernel) (pa_cons (pv 0) (pa_cons (pe_bltn (v := .ty "tuple") (by rfl) T.m_tuple (by decide +kernel) rfl) pa_nil))))) (pw_or (pt_cmpR op_ne (pe_callB call_len_seq (by rfl) T.m_len (by decide +kernel) (pa_cons (pv 0) pa_nil)) pe_int (nomark _)) (pw_or (pt_not (pt_val (pe_call (ok_law_is_integer T) (hr.mono (by decide)) (by rfl) T.law_is_integer.g T.law_is_integer.F.kp T.law_is_integer.b .nil pass0 (pa_cons (pe_ix ix_tup (pv 0) pe_int (fun _ _ => rfl)) pa_nil)))) (pw_or1 (pt_not (pt_val (pe_call (ok_law_is_integer T) (hr.mono (by decide)) (by rfl) T.law_is_integer.g T.law_is_integer.F.kp T.law_is_integer.b .nil pass0 (pa_cons (pe_ix ix_tup (pv 0) pe_int (fun _ _ => rfl)) pa_nil)))))))))
        (pss_one (ps_ret pe_bl))
        pss_nil)
      (pss_one (ps_ret (pe_cmpR (op_eqD hr.units) (pv 0) (pe_call (ok_law_ratio T) (hr.mono (by decide)) (by rfl) T.law_ratio.g T.law_ratio.F.kp T.law_ratio.b .nil pass0 (pa_cons (pv 1) (pa_cons (pv 2) pa_nil))) (nomark _))))), ?_⟩
    have ht : TP K H a (n.fdiv (sg n d)) (d.fdiv (sg n d)) := SqT.of ha
    refine ⟨.ref a, rfl, _, _, _, _, _, rfl, .ty "tuple", .base (.tup ha), kit_ty (by decide +kernel), true, rfl, ?_⟩
    refine iteF ⟨.ref a, rfl, a, _, rfl, .inr ht, rfl, _, rfl, ?_⟩
    refine iteF ⟨.ref a, rfl, a, _, _, _, rfl, rfl, ht, at0, _, rfl, true, rfl, ?_⟩
    refine iteF ⟨.ref a, rfl, a, _, _, _, rfl, rfl, ht, at1, _, rfl, true, rfl, ?_⟩
    refine iteF ⟨.ref a, rfl, _, rfl, _, rfl, n, d, rfl, h0, hn, hd, fun p hp => ?_⟩
    have s1 := same_upd (o := .tup [.int (n.fdiv (sg n d)), .int (d.fdiv (sg n d))]) hp
    refine ⟨dP _ _, dP _ _, TP.dp (SqT.of (s1 _ _ ha)), TP.dp (SqT.of upd_same), shaped_dP _ _, shaped_dP _ _, ?_⟩
    rw [eqv_dP]
    exact q _ s1
/-- a refusal told: (True, n) -/
def OutR (H : Hp) (Q : VK) (n : Int) : Prop := ∀ H' p, Same H H' → H' p = some (.tup [.bl true, .int n]) → Q (.ref p) H'
def sp_law_refused (K : PySem.W.Frag) : Sp := fun vs H Q _ => ∃ (way x y : V), vs = [way, x, y] ∧ ((∃ n : Int, way = .int 0 ∧ x = .int n ∧ y = .int 0 ∧ n.natAbs < 2 ^ 30 ∧ OutR H Q n) ∨ (∃ a b : Addr, way = .int 1 ∧ x = .ref a ∧ y = .ref b ∧ TP K H b 0 1 ∧ OutR H Q 0))
theorem ok_law_refused (T : Txt K mg) (X : Errs K mg) : FnOk P w K mg base CX0 5 T.law_refused.a T.law_refused.fd ["way", "one", "two"] (sp_law_refused K) := by
  refine T.law_refused.F.ok sc_law_refused (fun vs H Q E h => ?_) (fun cdv A outer s H vs Q E hr h => ?_)
  · obtain ⟨way, x, y, rfl, _⟩ := h
    rfl
  · obtain ⟨way, x, y, rfl, h⟩ := h
    refine ⟨_, (pss_cons (ps_try_as (i := 3) rfl rfl sc_law_refused.nd rfl rfl ⟨rfl, by decide, .inl X.e0.gM⟩ takes0
        (fun W pn xe tk _ => (pss_one (ps_if (pt_cmpR op_eq (pv 0) pe_int (nomark _))
          (pss_one (ps_expr (pe_callS (ok_ratio T X) (hr.mono (by decide)) (by rfl) T.ratio.g T.ratio.F.kp T.ratio.b (fun σ => passAt tk σ) (pa_cons (pv 1) (pa_cons (pv 2) pa_nil)))))
          (pss_one (ps_expr (pe_callS (ok_over T X) (hr.mono (by decide)) (by rfl) T.over.g T.over.F.kp T.over.b (fun σ => passAt tk σ) (pa_cons (pv 1) (pa_cons (pv 2) pa_nil))))))))
        (fun a oe cls d pn hz hf => (pss_one (ps_ret (pe_tup (pa_cons (pe_callB (LX.call_isX hz hf) (by rfl) T.m_isinstance (by decide +kernel) (pa_cons (pv 3) (pa_cons (pe_glob (v := .ref X.NoRatio.C) rfl X.NoRatio.g rfl) pa_nil))) (pa_cons (pe_xf X.NoRatio.xf X.NoRatio.noAt hz hf (pv 3)) pa_nil)))))))
      (pss_one (ps_ret pe_non))), ?_⟩
    rcases h with ⟨n, rfl, rfl, rfl, hn, q⟩ | ⟨a, b, rfl, rfl, rfl, hb, q⟩
    · refine ⟨_, rfl, rfl, _, rfl, iteT ⟨_, rfl, _, rfl, n, 0, rfl, hn, by decide, fun _ dd hdd => ?_, fun h => absurd rfl h⟩⟩
      refine ⟨true, X.NoRatio.exm, fun _ a0 ha0 => ?_, fun q => nomatch q⟩
      refine ⟨_, rfl, X.NoRatio.C, dd, _, _, true, _, rfl, rfl, X.NoRatio.named.own, rfl, .own _, upd_same, X.NoRatio.kit, ?_⟩
      refine ⟨_, rfl, rfl, rfl, dd, _, _, rfl, upd_same, rfl, by show 2 ≤ sizeLine; decide, fun p hp => ?_⟩
      exact q _ p ((same_upd hdd).trans (same_upd hp)) upd_same
    · refine ⟨_, rfl, rfl, _, rfl, iteF ⟨_, rfl, _, rfl, a, b, 0, 1, rfl, hb, fun _ dd hdd => ?_, fun h => absurd rfl h⟩⟩
      refine ⟨true, X.NoRatio.exm, fun _ a0 ha0 => ?_, fun q => nomatch q⟩
      refine ⟨_, rfl, X.NoRatio.C, dd, _, _, true, _, rfl, rfl, X.NoRatio.named.own, rfl, .own _, upd_same, X.NoRatio.kit, ?_⟩
      refine ⟨_, rfl, rfl, rfl, dd, _, _, rfl, upd_same, rfl, by show 2 ≤ sizeLine; decide, fun p hp => ?_⟩
      exact q _ p ((same_upd hdd).trans (same_upd hp)) upd_same
end
-- W66
theorem gc_one {n d t : Int} (ht : 0 < t) : decide (gc (n * t) (d * t) = 1) = decide (gc n d * t = 1) := by rw [gc_mul _ _ _ ht]
theorem pos_mul {d t : Int} (ht : 0 < t) : decide (0 < d * t) = decide (0 < d) := by
  by_cases h : 0 < d
  · rw [decide_eq_true h, decide_eq_true (Int.mul_pos h ht)]
  · rw [decide_eq_false h, decide_eq_false fun z => ?_]
    have : d * t ≤ 0 := Int.mul_nonpos_of_nonpos_of_nonneg (by omega) (by omega)
    omega
def dR (b : Bool) (n : Int) : PyData := .tuple [.bool b, .int n]
theorem dR_dp {K : PySem.W.Frag} {H : Hp} {a : Addr} {b : Bool} {n : Int} (h : SqT K H a [.bl b, .int n]) : Dp K H (.ref a) (dR b n) := .tup h (.cons (.bl b) (.cons (.int n) .nil))
theorem shaped_dR (b : Bool) (n : Int) : SeqAt.shaped (dR b n) = true := rfl
theorem eqv_dR (b : Bool) (n : Int) : PyData.eqv (dR b n) (dR b n) = true := SeqAt.eqv_refl _ (SeqAt.canLay_of_shaped (shaped_dR b n))
theorem small_mul {n t : Int} (hn : n.natAbs ≤ 1000000) (h0 : 0 < t) (h1 : t ≤ 9) : (n * t).natAbs < 2 ^ 30 := by
  rw [Int.natAbs_mul]
  have : n.natAbs * t.natAbs ≤ 1000000 * 9 := Nat.mul_le_mul hn (by omega)
  omega
section
variable {P : Program} {w : World} {K : PySem.W.Frag} {mg : Str → Option Value} {base : Heap}
def sp_law (K : PySem.W.Frag) : Sp := fun vs H Q _ => ∃ (a : Addr) (ns : List Int), vs = [.ref a] ∧ SqL K H a (ns.map V.int) ∧ ns.length ≤ 63 ∧ ∀ H', Q (.bl true) H'
theorem ok_law (T : Txt K mg) (X : Errs K mg) : FnOk P w K mg base CX0 6 T.law.a T.law.fd ["script"] (sp_law K) := by
  refine T.law.F.ok sc_law (fun vs H Q E h => ?_) (fun cdv A outer s H vs Q E hr h => ?_)
  · obtain ⟨a, ns, rfl, _⟩ := h
    rfl
  · obtain ⟨a, ns, rfl, hS, hl, q⟩ := h
    refine ⟨_, (pss_cons (ps_set (i := 1) sc_law.nd rfl (.inl rfl) (pe_call (ok_law_draws T) (hr.mono (by decide)) (by rfl) T.law_draws.g T.law_draws.F.kp T.law_draws.b .nil pass0 (pa_cons (pv 0) pa_nil)))
      (pss_cons (ps_for PassesOwn.never rfl (pi_range1 (by rfl) T.m_range (pa_cons pe_int pa_nil)) (pg_name (i := 2) sc_law.nd rfl (.inl rfl))
        (pss_cons (ps_set (i := 3) sc_law.nd rfl (.inl rfl) (pe_call (ok_law_integer T) (hr.mono (by decide)) (by rfl) T.law_integer.g T.law_integer.F.kp T.law_integer.b .nil pass0 (pa_cons (pv 1) (pa_cons (pe_op op_mul pe_int (pv 2)) pa_nil))))
        (pss_cons (ps_set (i := 4) sc_law.nd rfl (.inl rfl) (pe_call (ok_law_integer T) (hr.mono (by decide)) (by rfl) T.law_integer.g T.law_integer.F.kp T.law_integer.b .nil pass0 (pa_cons (pv 1) (pa_cons (pe_op op_add (pe_op op_mul pe_int (pv 2)) pe_int) pa_nil))))
        (pss_cons (ps_set (i := 5) sc_law.nd rfl (.inl rfl) (pe_op op_add pe_int (pe_call (ok_law_mix T) (hr.mono (by decide)) (by rfl) T.law_mix.g T.law_mix.F.kp T.law_mix.b .nil pass0 (pa_cons (pv 1) (pa_cons (pe_op op_add (pe_op op_mul pe_int (pv 2)) pe_int) (pa_cons pe_int pa_nil))))))
        (pss_cons (ps_set (i := 6) sc_law.nd rfl (.inl rfl) (pe_tup (pa_cons (pe_call (ok_is_ratio T) (hr.mono (by decide)) (by rfl) T.is_ratio.g T.is_ratio.F.kp T.is_ratio.b .nil pass0 (pa_cons (pe_tup (pa_cons (pv 3) (pa_cons (pv 4) pa_nil))) pa_nil)) (pa_cons (pe_call (ok_is_ratio T) (hr.mono (by decide)) (by rfl) T.is_ratio.g T.is_ratio.F.kp T.is_ratio.b .nil pass0 (pa_cons (pe_tup (pa_cons (pe_op op_mul (pv 3) (pv 5)) (pa_cons (pe_op op_mul (pv 4) (pv 5)) pa_nil))) pa_nil)) pa_nil))))
        (pss_cons (ps_if (PW.pt (pw_or (pt_not (pt_val (pe_callB call_isi (by rfl) T.m_isinstance (by decide +kernel) (pa_cons (pe_ix ix_tup (pv 6) pe_int (fun _ _ => rfl)) (pa_cons (pe_bltn (v := .ty "bool") (by rfl) T.m_bool (by decide +kernel) rfl) pa_nil))))) (pw_or1 (pt_not (pt_val (pe_callB call_isi (by rfl) T.m_isinstance (by decide +kernel) (pa_cons (pe_ix ix_tup (pv 6) pe_int (fun _ _ => rfl)) (pa_cons (pe_bltn (v := .ty "bool") (by rfl) T.m_bool (by decide +kernel) rfl) pa_nil))))))))
          (pss_one (ps_ret pe_bl))
          pss_nil)
        (pss_cons (ps_if (pt_cmpR op_ne (pe_ix ix_tup (pv 6) pe_int (fun _ _ => rfl)) (LX.pe_andP (pe_cmpR op_gt (pv 4) pe_int (nomark _)) (pe_one (pe_cmpR op_eq (pe_call (ok_law_common T) (hr.mono (by decide)) (by rfl) T.law_common.g T.law_common.F.kp T.law_common.b .nil pass0 (pa_cons (pv 3) (pa_cons (pv 4) pa_nil))) pe_int (nomark _)))) (nomark _))
          (pss_one (ps_ret pe_bl))
          pss_nil)
        (pss_cons (ps_if (pt_cmpR op_ne (pe_ix ix_tup (pv 6) pe_int (fun _ _ => rfl)) (LX.pe_andP (pe_cmpR op_gt (pv 4) pe_int (nomark _)) (pe_one (pe_cmpR op_eq (pe_op op_mul (pe_call (ok_law_common T) (hr.mono (by decide)) (by rfl) T.law_common.g T.law_common.F.kp T.law_common.b .nil pass0 (pa_cons (pv 3) (pa_cons (pv 4) pa_nil))) (pv 5)) pe_int (nomark _)))) (nomark _))
          (pss_one (ps_ret pe_bl))
          pss_nil)
        (pss_cons (ps_if (pt_cmpR (op_neD hr.units) (pe_call (ok_law_refused T X) (hr.mono (by decide)) (by rfl) T.law_refused.g T.law_refused.F.kp T.law_refused.b .nil pass0 (pa_cons pe_int (pa_cons (pv 3) (pa_cons pe_int pa_nil)))) (pe_tup (pa_cons pe_bl (pa_cons (pv 3) pa_nil))) (nomark _))
          (pss_one (ps_ret pe_bl))
          pss_nil)
        (pss_one (ps_if (PW.pt (pw_and (pt_cmpR op_ne (pv 4) pe_int (nomark _)) (pw_and1 (PW.pt (pw_or (pt_not (pt_val (pe_call (ok_law_is_same T) (hr.mono (by decide)) (by rfl) T.law_is_same.g T.law_is_same.F.kp T.law_is_same.b .nil pass0 (pa_cons (pe_call (ok_ratio T X) (hr.mono (by decide)) (by rfl) T.ratio.g T.ratio.F.kp T.ratio.b .nil (passes_call takes0 fun _ _ _ _ h => h) (pa_cons (pv 3) (pa_cons (pv 4) pa_nil))) (pa_cons (pv 3) (pa_cons (pv 4) pa_nil)))))) (pw_or1 (pt_not (pt_val (pe_call (ok_law_is_same T) (hr.mono (by decide)) (by rfl) T.law_is_same.g T.law_is_same.F.kp T.law_is_same.b .nil pass0 (pa_cons (pe_call (ok_ratio T X) (hr.mono (by decide)) (by rfl) T.ratio.g T.ratio.F.kp T.ratio.b .nil (passes_call takes0 fun _ _ _ _ h => h) (pa_cons (pe_op op_mul (pv 3) (pv 5)) (pa_cons (pe_op op_mul (pe_un un_neg (pv 4)) (pv 5)) pa_nil))) (pa_cons (pe_un un_neg (pv 3)) (pa_cons (pv 4) pa_nil))))))))))))
          (pss_one (ps_ret pe_bl))
          pss_nil)))))))))))
      (pss_cons (ps_for PassesOwn.never rfl (pi_range1 (by rfl) T.m_range (pa_cons pe_int pa_nil)) (pg_name (i := 2) sc_law.nd rfl (.inl rfl))
        (pss_cons (ps_set (i := 7) sc_law.nd rfl (.inl rfl) (pe_call (ok_law_drawn_ratio T) (hr.mono (by decide)) (by rfl) T.law_drawn_ratio.g T.law_drawn_ratio.F.kp T.law_drawn_ratio.b .nil pass0 (pa_cons (pv 1) (pa_cons (pe_op op_add pe_int (pe_op op_mul pe_int (pv 2))) pa_nil))))
        (pss_cons (ps_set (i := 8) sc_law.nd rfl (.inl rfl) (pe_call (ok_law_drawn_ratio T) (hr.mono (by decide)) (by rfl) T.law_drawn_ratio.g T.law_drawn_ratio.F.kp T.law_drawn_ratio.b .nil pass0 (pa_cons (pv 1) (pa_cons (pe_op op_add pe_int (pe_op op_mul pe_int (pv 2))) pa_nil))))
        (pss_cons (ps_if (pt_not (pt_val (pe_call (ok_law_is_same T) (hr.mono (by decide)) (by rfl) T.law_is_same.g T.law_is_same.F.kp T.law_is_same.b .nil pass0 (pa_cons (pe_call (ok_plus T) (hr.mono (by decide)) (by rfl) T.plus.g T.plus.F.kp T.plus.b .nil pass0 (pa_cons (pv 7) (pa_cons (pv 8) pa_nil))) (pa_cons (pe_op op_add (pe_op op_mul (pe_ix ix_tup (pv 7) pe_int (fun _ _ => rfl)) (pe_ix ix_tup (pv 8) pe_int (fun _ _ => rfl))) (pe_op op_mul (pe_ix ix_tup (pv 8) pe_int (fun _ _ => rfl)) (pe_ix ix_tup (pv 7) pe_int (fun _ _ => rfl)))) (pa_cons (pe_op op_mul (pe_ix ix_tup (pv 7) pe_int (fun _ _ => rfl)) (pe_ix ix_tup (pv 8) pe_int (fun _ _ => rfl))) pa_nil))))))
          (pss_one (ps_ret pe_bl))
          pss_nil)
        (pss_cons (ps_if (pt_not (pt_val (pe_call (ok_law_is_same T) (hr.mono (by decide)) (by rfl) T.law_is_same.g T.law_is_same.F.kp T.law_is_same.b .nil pass0 (pa_cons (pe_call (ok_minus T) (hr.mono (by decide)) (by rfl) T.minus.g T.minus.F.kp T.minus.b .nil pass0 (pa_cons (pv 7) (pa_cons (pv 8) pa_nil))) (pa_cons (pe_op op_sub (pe_op op_mul (pe_ix ix_tup (pv 7) pe_int (fun _ _ => rfl)) (pe_ix ix_tup (pv 8) pe_int (fun _ _ => rfl))) (pe_op op_mul (pe_ix ix_tup (pv 8) pe_int (fun _ _ => rfl)) (pe_ix ix_tup (pv 7) pe_int (fun _ _ => rfl)))) (pa_cons (pe_op op_mul (pe_ix ix_tup (pv 7) pe_int (fun _ _ => rfl)) (pe_ix ix_tup (pv 8) pe_int (fun _ _ => rfl))) pa_nil))))))
          (pss_one (ps_ret pe_bl))
          pss_nil)
        (pss_cons (ps_if (pt_not (pt_val (pe_call (ok_law_is_same T) (hr.mono (by decide)) (by rfl) T.law_is_same.g T.law_is_same.F.kp T.law_is_same.b .nil pass0 (pa_cons (pe_call (ok_times T) (hr.mono (by decide)) (by rfl) T.times.g T.times.F.kp T.times.b .nil pass0 (pa_cons (pv 7) (pa_cons (pv 8) pa_nil))) (pa_cons (pe_op op_mul (pe_ix ix_tup (pv 7) pe_int (fun _ _ => rfl)) (pe_ix ix_tup (pv 8) pe_int (fun _ _ => rfl))) (pa_cons (pe_op op_mul (pe_ix ix_tup (pv 7) pe_int (fun _ _ => rfl)) (pe_ix ix_tup (pv 8) pe_int (fun _ _ => rfl))) pa_nil))))))
          (pss_one (ps_ret pe_bl))
          pss_nil)
        (pss_cons (ps_if (PW.pt (pw_and (pt_cmpR op_ne (pe_ix ix_tup (pv 8) pe_int (fun _ _ => rfl)) pe_int (nomark _)) (pw_and1 (pt_not (pt_val (pe_call (ok_law_is_same T) (hr.mono (by decide)) (by rfl) T.law_is_same.g T.law_is_same.F.kp T.law_is_same.b .nil pass0 (pa_cons (pe_call (ok_over T X) (hr.mono (by decide)) (by rfl) T.over.g T.over.F.kp T.over.b .nil (passes_call takes0 fun _ _ _ _ h => h) (pa_cons (pv 7) (pa_cons (pv 8) pa_nil))) (pa_cons (pe_op op_mul (pe_ix ix_tup (pv 7) pe_int (fun _ _ => rfl)) (pe_ix ix_tup (pv 8) pe_int (fun _ _ => rfl))) (pa_cons (pe_op op_mul (pe_ix ix_tup (pv 7) pe_int (fun _ _ => rfl)) (pe_ix ix_tup (pv 8) pe_int (fun _ _ => rfl))) pa_nil)))))))))
          (pss_one (ps_ret pe_bl))
          pss_nil)
        (pss_one (ps_if (pt_cmpR (op_neD hr.units) (pe_call (ok_law_refused T X) (hr.mono (by decide)) (by rfl) T.law_refused.g T.law_refused.F.kp T.law_refused.b .nil pass0 (pa_cons pe_int (pa_cons (pv 7) (pa_cons (pe_tup (pa_cons pe_int (pa_cons pe_int pa_nil))) pa_nil)))) (pe_tup (pa_cons pe_bl (pa_cons pe_int pa_nil))) (nomark _))
          (pss_one (ps_ret pe_bl))
          pss_nil)))))))))
      (pss_one (ps_ret pe_bl))))), ?_⟩
    refine ⟨.ref a, rfl, a, ns, rfl, hS, hl, fun H0 p ds s0 hp hd hlen => ?_⟩
    refine ⟨6, rfl, by decide, by decide, ?_⟩
    refine for_range (n := 6) (lo := 0) (fun i σ H' => IL H' p ds ∧ ∃ v2 v3 v4 v5 v6 v7 v8, σ = [some (.ref a), some (.ref p), v2, v3, v4, v5, v6, v7, v8]) ⟨hd, _, _, _, _, _, _, _, rfl⟩ (fun i σ H1 hi hP => ?_) (fun σ H1 hP => ?_)
    · obtain ⟨hd, v2, v3, v4, v5, v6, v7, v8, rfl⟩ := hP
      refine ⟨.ref p, rfl, _, rfl, _, _, rfl, rfl, .inl ⟨by decide, by decide⟩, p, ds, _, rfl, hd, by omega, fun H2 n s2 hn => ?_⟩
      refine ⟨.ref p, rfl, _, rfl, _, _, rfl, rfl, .inl ⟨by decide, by decide⟩, _, _, rfl, rfl, p, ds, _, rfl, hd.same s2, by omega, fun H3 d s3 hdd => ?_⟩
      have s13 := s2.trans s3
      refine ⟨.ref p, rfl, _, rfl, _, _, rfl, rfl, .inl ⟨by decide, by decide⟩, _, _, rfl, rfl, p, ds, _, 9, rfl, hd.same s13, by omega, by decide, fun t0 ht0 ht1 => ?_⟩
      have htp : 0 < 1 + t0 := by omega
      have ht9 : 1 + t0 ≤ 9 := by omega
      refine ⟨_, _, rfl, rfl, ?_⟩
      have nt := small_mul hn htp ht9
      have dt := small_mul hdd htp ht9
      refine ⟨_, rfl, _, rfl, by show 2 ≤ sizeLine; decide, fun t1 hf1 => ⟨t1, n, d, rfl, SqT.of upd_same, ?_⟩⟩
      have u1 := same_upd (o := .tup [.int n, .int d]) hf1
      refine ⟨_, rfl, _, rfl, _, _, rfl, rfl, .inl ⟨by omega, by omega⟩, _, rfl, _, rfl, _, _, rfl, rfl, .inl ⟨by omega, by omega⟩, by show 2 ≤ sizeLine; decide, fun t2 hf2 => ⟨t2, _, _, rfl, SqT.of upd_same, ?_⟩⟩
      have u2 := u1.trans (same_upd (o := .tup [.int (n * (1 + t0)), .int (d * (1 + t0))]) hf2)
      refine ⟨by show 2 ≤ sizeLine; decide, fun t3 hf3 => ?_⟩
      have u3 := u2.trans (same_upd (o := .tup [.bl (decide (0 < d) && decide (gc n d = 1)), .bl (decide (0 < d * (1 + t0)) && decide (gc (n * (1 + t0)) (d * (1 + t0)) = 1))]) hf3)
      have hd3 := (hd.same s13).same u3
      refine ⟨.ref t3, rfl, t3, _, _, _, rfl, rfl, SqT.of upd_same, at0, _, _, _, _, _, rfl, .ty "bool", .base (.bl _), kit_ty (by decide +kernel), true, rfl, ?_⟩
      refine iteF ⟨.ref t3, rfl, t3, _, _, _, rfl, rfl, SqT.of upd_same, at1, _, _, _, _, _, rfl, .ty "bool", .base (.bl _), kit_ty (by decide +kernel), true, rfl, ?_⟩
      refine iteF ⟨.ref t3, rfl, t3, _, _, _, rfl, rfl, SqT.of upd_same, at0, _, rfl, _, _, rfl, rfl, decide (0 < d), decide (gc n d = 1), rfl, fun _ Q' z => ?_, rfl, _, rfl, ?_⟩
      · refine ⟨_, rfl, _, rfl, n, d, rfl, by omega, by omega, rfl, ?_⟩
        rw [dec_int]
        exact z
      refine iteNS rfl ⟨.ref t3, rfl, t3, _, _, _, rfl, rfl, SqT.of upd_same, at1, _, rfl, _, _, rfl, rfl, decide (0 < d), decide (gc n d * (1 + t0) = 1), rfl, fun _ Q' z => ?_, rfl, _, rfl, ?_⟩
      · refine ⟨_, rfl, _, rfl, n, d, rfl, by omega, by omega, _, rfl, _, _, rfl, rfl, .inr ⟨by omega, by omega⟩, rfl, ?_⟩
        rw [dec_int]
        exact z
      refine iteNS (by rw [pos_mul htp, gc_one htp]) ?_
      refine ⟨_, rfl, _, _, _, rfl, .inl ⟨n, rfl, rfl, rfl, by omega, fun H4 r4 s4 hr4 => ?_⟩⟩
      refine ⟨_, rfl, by show 2 ≤ sizeLine; decide, fun t5 hf5 => ?_⟩
      have u5 := s4.trans (same_upd (o := .tup [.bl true, .int n]) hf5)
      refine ⟨dR true n, dR true n, dR_dp (SqT.of ((same_upd hf5) _ _ hr4)), dR_dp (SqT.of upd_same), shaped_dR _ _, shaped_dR _ _, _, rfl, ?_⟩
      rw [eqv_dR]
      have hd5 := hd3.same u5
      refine iteF ⟨_, rfl, rfl, _, rfl, ?_⟩
      refine ite2 (fun h => ?_) (fun h => iteF ⟨hd5, _, _, _, _, _, _, _, rfl⟩)
      have d0 : d ≠ 0 := fun z => by rw [z] at h; exact absurd h (by decide)
      refine ⟨_, rfl, _, rfl, n, d, rfl, by omega, by omega, fun z => absurd z d0, fun _ r6 hf6 => ?_⟩
      have u6 := same_upd (o := .tup [.int (n.fdiv (sg n d)), .int (d.fdiv (sg n d))]) hf6
      refine ⟨_, rfl, _, rfl, r6, n, d, rfl, upd_same, d0, by omega, by omega, fun H7 s7 => ⟨true, rfl, ?_⟩⟩
      have hd7 := (hd5.same u6).same s7
      refine iteF ⟨_, rfl, _, rfl, _, _, rfl, rfl, .inl ⟨by omega, by omega⟩, _, rfl, _, rfl, _, rfl, _, _, rfl, rfl, .inl ⟨by omega, by omega⟩, n * (1 + t0), -d * (1 + t0), rfl, nt, by rw [Int.neg_mul, Int.natAbs_neg]; exact dt, fun z => ?_, fun d1 r8 hf8 => ?_⟩
      · exact absurd z (mul0 (by omega) (by omega))
      obtain ⟨e1, e2⟩ := low_turned (n := n) d0 htp
      rw [e1, e2]
      have u8 := same_upd (o := .tup [.int ((-n).fdiv (sg (-n) d)), .int (d.fdiv (sg (-n) d))]) hf8
      refine ⟨_, rfl, _, rfl, _, rfl, r8, -n, d, rfl, upd_same, d0, by omega, by omega, fun H9 s9 => ⟨true, rfl, ?_⟩⟩
      exact iteF ⟨(hd7.same u8).same s9, _, _, _, _, _, _, _, rfl⟩
    · obtain ⟨hd, v2, v3, v4, v5, v6, v7, v8, rfl⟩ := hP
      refine ⟨6, rfl, by decide, by decide, ?_⟩
      refine for_range (n := 6) (lo := 0) (fun i σ H' => IL H' p ds ∧ ∃ v2 v3 v4 v5 v6 v7 v8, σ = [some (.ref a), some (.ref p), v2, v3, v4, v5, v6, v7, v8]) ⟨hd, _, _, _, _, _, _, _, rfl⟩ (fun i σ H1 hi hP => ?_) (fun σ H1 hP => ?_)
      · obtain ⟨hd, v2, v3, v4, v5, v6, v7, v8, rfl⟩ := hP
        refine ⟨.ref p, rfl, _, rfl, _, _, rfl, rfl, .inl ⟨by decide, by decide⟩, _, _, rfl, rfl, p, ds, _, rfl, hd, by omega, fun H2 o n d s2 hfo ho bn bd d0 => ?_⟩
        refine ⟨.ref p, rfl, _, rfl, _, _, rfl, rfl, .inl ⟨by decide, by decide⟩, _, _, rfl, rfl, p, ds, _, rfl, hd.same s2, by omega, fun H3 o2 m e s3 hf2 ho2 bm be e0 => ?_⟩
        have hd3 := (hd.same s2).same s3
        have to : TP K H3 o n d := SqT.of (s3 _ _ ho)
        have tu : TP K H3 o2 m e := SqT.of ho2
        clear ho ho2 s2 s3 hfo hf2 hd
        have mne := mulB bn be
        have mmd := mulB bm bd
        have mde := mulB bd be
        have mnm := mulB bn bm
        have mdm := mulB bd bm
        -- the sum
        refine ⟨_, rfl, _, rfl, o, o2, n, d, m, e, rfl, to, tu, bn, bd, bm, be, d0, e0, fun r hr => ?_⟩
        have u := same_upd (o := .tup [.int ((n * e + m * d).fdiv (sg (n * e + m * d) (d * e))), .int ((d * e).fdiv (sg (n * e + m * d) (d * e)))]) hr
        have to2 := Same.seqT u to
        have tu2 := Same.seqT u tu
        refine ⟨_, rfl, o, _, _, _, rfl, rfl, to2, at0, _, rfl, o2, _, _, _, rfl, rfl, tu2, at1, _, _, rfl, rfl, .inl ⟨by omega, by omega⟩,
          _, rfl, o2, _, _, _, rfl, rfl, tu2, at0, _, rfl, o, _, _, _, rfl, rfl, to2, at1, _, _, rfl, rfl, .inl ⟨by omega, by omega⟩, _, _, rfl, rfl,
          _, rfl, o, _, _, _, rfl, rfl, to2, at1, _, rfl, o2, _, _, _, rfl, rfl, tu2, at1, _, _, rfl, rfl, .inl ⟨by omega, by omega⟩,
          r, _, _, rfl, upd_same, mul0 d0 e0, by omega, by omega, fun H4 s4 => ⟨true, rfl, ?_⟩⟩
        have hd4 := (hd3.same u).same s4
        have to4 := Same.seqT s4 to2
        have tu4 := Same.seqT s4 tu2
        clear u to2 tu2 s4 hd3 to tu hr
        -- the difference
        refine iteF ⟨_, rfl, _, rfl, o, o2, n, d, m, e, rfl, to4, tu4, bn, bd, bm, be, d0, e0, fun r hr => ?_⟩
        have u := same_upd (o := .tup [.int ((n * e - m * d).fdiv (sg (n * e - m * d) (d * e))), .int ((d * e).fdiv (sg (n * e - m * d) (d * e)))]) hr
        have to2 := Same.seqT u to4
        have tu2 := Same.seqT u tu4
        refine ⟨_, rfl, o, _, _, _, rfl, rfl, to2, at0, _, rfl, o2, _, _, _, rfl, rfl, tu2, at1, _, _, rfl, rfl, .inl ⟨by omega, by omega⟩,
          _, rfl, o2, _, _, _, rfl, rfl, tu2, at0, _, rfl, o, _, _, _, rfl, rfl, to2, at1, _, _, rfl, rfl, .inl ⟨by omega, by omega⟩, _, _, rfl, rfl,
          _, rfl, o, _, _, _, rfl, rfl, to2, at1, _, rfl, o2, _, _, _, rfl, rfl, tu2, at1, _, _, rfl, rfl, .inl ⟨by omega, by omega⟩,
          r, _, _, rfl, upd_same, mul0 d0 e0, by omega, by omega, fun H5 s5 => ⟨true, rfl, ?_⟩⟩
        have hd5 := (hd4.same u).same s5
        have to5 := Same.seqT s5 to2
        have tu5 := Same.seqT s5 tu2
        clear u to2 tu2 s5 hd4 to4 tu4 hr
        -- the product
        refine iteF ⟨_, rfl, _, rfl, o, o2, n, d, m, e, rfl, to5, tu5, bn, bd, bm, be, d0, e0, fun r hr => ?_⟩
        have u := same_upd (o := .tup [.int ((n * m).fdiv (sg (n * m) (d * e))), .int ((d * e).fdiv (sg (n * m) (d * e)))]) hr
        have to2 := Same.seqT u to5
        have tu2 := Same.seqT u tu5
        refine ⟨_, rfl, o, _, _, _, rfl, rfl, to2, at0, _, rfl, o2, _, _, _, rfl, rfl, tu2, at0, _, _, rfl, rfl, .inl ⟨by omega, by omega⟩,
          _, rfl, o, _, _, _, rfl, rfl, to2, at1, _, rfl, o2, _, _, _, rfl, rfl, tu2, at1, _, _, rfl, rfl, .inl ⟨by omega, by omega⟩,
          r, _, _, rfl, upd_same, mul0 d0 e0, by omega, by omega, fun H6 s6 => ⟨true, rfl, ?_⟩⟩
        have hd6 := (hd5.same u).same s6
        have to6 := Same.seqT s6 to2
        have tu6 := Same.seqT s6 tu2
        clear u to2 tu2 s6 hd5 to5 tu5 hr
        -- the quotient
        refine iteF ⟨_, rfl, o2, _, _, _, rfl, rfl, tu6, at0, rfl, _, rfl, ?_⟩
        refine ite2 (fun h => ?_) (fun h => iteF ?_)
        · have m0 : m ≠ 0 := fun z => by rw [z] at h; exact absurd h (by decide)
          refine ⟨_, rfl, _, rfl, o, o2, m, e, rfl, tu6, fun z => absurd z m0, fun _ => ⟨n, d, to6, bn, bd, bm, be, d0, fun r hr => ?_⟩⟩
          have u := same_upd (o := .tup [.int ((n * e).fdiv (sg (n * e) (d * m))), .int ((d * m).fdiv (sg (n * e) (d * m)))]) hr
          have to2 := Same.seqT u to6
          have tu2 := Same.seqT u tu6
          refine ⟨_, rfl, o, _, _, _, rfl, rfl, to2, at0, _, rfl, o2, _, _, _, rfl, rfl, tu2, at1, _, _, rfl, rfl, .inl ⟨by omega, by omega⟩,
            _, rfl, o, _, _, _, rfl, rfl, to2, at1, _, rfl, o2, _, _, _, rfl, rfl, tu2, at0, _, _, rfl, rfl, .inl ⟨by omega, by omega⟩,
            r, _, _, rfl, upd_same, mul0 d0 m0, by omega, by omega, fun H7 s7 => ⟨true, rfl, iteF ?_⟩⟩
          refine ⟨_, rfl, by show 2 ≤ sizeLine; decide, fun t hf => ?_⟩
          refine ⟨_, _, _, rfl, .inr ⟨o, t, rfl, rfl, rfl, SqT.of upd_same, fun H8 r8 s8 hr8 => ⟨by show 2 ≤ sizeLine; decide, fun t5 hf5 => ?_⟩⟩⟩
          refine ⟨dR true 0, dR true 0, dR_dp (SqT.of ((same_upd hf5) _ _ hr8)), dR_dp (SqT.of upd_same), shaped_dR _ _, shaped_dR _ _, _, rfl, ?_⟩
          rw [eqv_dR]
          exact iteF ⟨((((hd6.same u).same s7).same (same_upd hf)).same s8).same (same_upd hf5), _, _, _, _, _, _, _, rfl⟩
        · refine ⟨_, rfl, by show 2 ≤ sizeLine; decide, fun t hf => ?_⟩
          refine ⟨_, _, _, rfl, .inr ⟨o, t, rfl, rfl, rfl, SqT.of upd_same, fun H8 r8 s8 hr8 => ⟨by show 2 ≤ sizeLine; decide, fun t5 hf5 => ?_⟩⟩⟩
          refine ⟨dR true 0, dR true 0, dR_dp (SqT.of ((same_upd hf5) _ _ hr8)), dR_dp (SqT.of upd_same), shaped_dR _ _, shaped_dR _ _, _, rfl, ?_⟩
          rw [eqv_dR]
          exact iteF ⟨((hd6.same (same_upd hf)).same s8).same (same_upd hf5), _, _, _, _, _, _, _, rfl⟩
      · obtain ⟨hd, v2, v3, v4, v5, v6, v7, v8, rfl⟩ := hP
        exact q _
end
section
/-- the facts of the text, from what stands behind the top -/
theorem all_mk {l : PySem.W.OpenLaw} {w : World} {K : PySem.W.Frag} {h : Heap} {mg : Str → Option Value} {fa : Addr} (X : K.In h) (G : h.Ns mainGlobals mg) (hfa : mg "law" = some (.ref fa))
    {f0 : Addr} {od0 an0 : Option Addr} {sl0 : Array (Option Value)} {oc0 kV0 dc0 pm0 cd0 ct0 : Value}
    {f1 : Addr} {od1 an1 : Option Addr} {sl1 : Array (Option Value)} {oc1 kV1 dc1 pm1 cd1 ct1 : Value}
    {f2 : Addr} {od2 an2 : Option Addr} {sl2 : Array (Option Value)} {oc2 kV2 dc2 pm2 cd2 ct2 : Value}
    {f3 : Addr} {od3 an3 : Option Addr} {sl3 : Array (Option Value)} {oc3 kV3 dc3 pm3 cd3 ct3 : Value}
    {f4 : Addr} {od4 an4 : Option Addr} {sl4 : Array (Option Value)} {oc4 kV4 dc4 pm4 cd4 ct4 : Value}
    {f5 : Addr} {od5 an5 : Option Addr} {sl5 : Array (Option Value)} {oc5 kV5 dc5 pm5 cd5 ct5 : Value}
    {f6 : Addr} {od6 an6 : Option Addr} {sl6 : Array (Option Value)} {oc6 kV6 dc6 pm6 cd6 ct6 : Value}
    {f7 : Addr} {od7 an7 : Option Addr} {sl7 : Array (Option Value)} {oc7 kV7 dc7 pm7 cd7 ct7 : Value}
    {f8 : Addr} {od8 an8 : Option Addr} {sl8 : Array (Option Value)} {oc8 kV8 dc8 pm8 cd8 ct8 : Value}
    {f9 : Addr} {od9 an9 : Option Addr} {sl9 : Array (Option Value)} {oc9 kV9 dc9 pm9 cd9 ct9 : Value}
    {f10 : Addr} {od10 an10 : Option Addr} {sl10 : Array (Option Value)} {oc10 kV10 dc10 pm10 cd10 ct10 : Value}
    {f11 : Addr} {od11 an11 : Option Addr} {sl11 : Array (Option Value)} {oc11 kV11 dc11 pm11 cd11 ct11 : Value}
    {f12 : Addr} {od12 an12 : Option Addr} {sl12 : Array (Option Value)} {oc12 kV12 dc12 pm12 cd12 ct12 : Value}
    {f13 : Addr} {od13 an13 : Option Addr} {sl13 : Array (Option Value)} {oc13 kV13 dc13 pm13 cd13 ct13 : Value}
    {f14 : Addr} {od14 an14 : Option Addr} {sl14 : Array (Option Value)} {oc14 kV14 dc14 pm14 cd14 ct14 : Value}
    {f15 : Addr} {od15 an15 : Option Addr} {sl15 : Array (Option Value)} {oc15 kV15 dc15 pm15 cd15 ct15 : Value}
    {f16 : Addr} {od16 an16 : Option Addr} {sl16 : Array (Option Value)} {oc16 kV16 dc16 pm16 cd16 ct16 : Value}
    {f17 : Addr} {od17 an17 : Option Addr} {sl17 : Array (Option Value)} {oc17 kV17 dc17 pm17 cd17 ct17 : Value}
    {CM fI : Addr} {odI anI : Option Addr} {slI : Array (Option Value)} {ocI kVI dcI pmI cdI ctI : Value}
    {e0_C e0_N : Addr} {e0_nm e0_q e0_nk : Str} {e0_tk : Tok} {e0_bs : List Value} {e0_sn : List Str} {e0_sub : List Value} {e0_ab : Bool} {e0_col : Option Bool} {e0_dd : Option Addr} {e0_m0 e0_m1 e0_m3 e0_m5 : Option Value}
    (a0 : PySem.W.nsIn K mainGlobals "_wording" = some (some (.ref f0))) (l0 : K.lookup f0 = some ⟨oc0, od0, .func (PySem.W.fnOf "_wording" "_wording" (defArgs s_wording) (defBody s_wording) (defScope s_wording) .none kV0 dc0 pm0 an0 cd0 ct0), sl0⟩) (c0 : PySem.W.codeIn K cd0 "_wording" = true) (k0 : PySem.W.keepIn K (.ref f0) = true)
    (a1 : PySem.W.nsIn K mainGlobals "_lowest" = some (some (.ref f1))) (l1 : K.lookup f1 = some ⟨oc1, od1, .func (PySem.W.fnOf "_lowest" "_lowest" (defArgs s_lowest) (defBody s_lowest) (defScope s_lowest) .none kV1 dc1 pm1 an1 cd1 ct1), sl1⟩) (c1 : PySem.W.codeIn K cd1 "_lowest" = true) (k1 : PySem.W.keepIn K (.ref f1) = true)
    (a2 : PySem.W.nsIn K mainGlobals "ratio" = some (some (.ref f2))) (l2 : K.lookup f2 = some ⟨oc2, od2, .func (PySem.W.fnOf "ratio" "ratio" (defArgs s_ratio) (defBody s_ratio) (defScope s_ratio) .none kV2 dc2 pm2 an2 cd2 ct2), sl2⟩) (c2 : PySem.W.codeIn K cd2 "ratio" = true) (k2 : PySem.W.keepIn K (.ref f2) = true)
    (a3 : PySem.W.nsIn K mainGlobals "is_ratio" = some (some (.ref f3))) (l3 : K.lookup f3 = some ⟨oc3, od3, .func (PySem.W.fnOf "is_ratio" "is_ratio" (defArgs s_is_ratio) (defBody s_is_ratio) (defScope s_is_ratio) .none kV3 dc3 pm3 an3 cd3 ct3), sl3⟩) (c3 : PySem.W.codeIn K cd3 "is_ratio" = true) (k3 : PySem.W.keepIn K (.ref f3) = true)
    (a4 : PySem.W.nsIn K mainGlobals "plus" = some (some (.ref f4))) (l4 : K.lookup f4 = some ⟨oc4, od4, .func (PySem.W.fnOf "plus" "plus" (defArgs s_plus) (defBody s_plus) (defScope s_plus) .none kV4 dc4 pm4 an4 cd4 ct4), sl4⟩) (c4 : PySem.W.codeIn K cd4 "plus" = true) (k4 : PySem.W.keepIn K (.ref f4) = true)
    (a5 : PySem.W.nsIn K mainGlobals "minus" = some (some (.ref f5))) (l5 : K.lookup f5 = some ⟨oc5, od5, .func (PySem.W.fnOf "minus" "minus" (defArgs s_minus) (defBody s_minus) (defScope s_minus) .none kV5 dc5 pm5 an5 cd5 ct5), sl5⟩) (c5 : PySem.W.codeIn K cd5 "minus" = true) (k5 : PySem.W.keepIn K (.ref f5) = true)
    (a6 : PySem.W.nsIn K mainGlobals "times" = some (some (.ref f6))) (l6 : K.lookup f6 = some ⟨oc6, od6, .func (PySem.W.fnOf "times" "times" (defArgs s_times) (defBody s_times) (defScope s_times) .none kV6 dc6 pm6 an6 cd6 ct6), sl6⟩) (c6 : PySem.W.codeIn K cd6 "times" = true) (k6 : PySem.W.keepIn K (.ref f6) = true)
    (a7 : PySem.W.nsIn K mainGlobals "over" = some (some (.ref f7))) (l7 : K.lookup f7 = some ⟨oc7, od7, .func (PySem.W.fnOf "over" "over" (defArgs s_over) (defBody s_over) (defScope s_over) .none kV7 dc7 pm7 an7 cd7 ct7), sl7⟩) (c7 : PySem.W.codeIn K cd7 "over" = true) (k7 : PySem.W.keepIn K (.ref f7) = true)
    (a8 : PySem.W.nsIn K mainGlobals "_law_draws" = some (some (.ref f8))) (l8 : K.lookup f8 = some ⟨oc8, od8, .func (PySem.W.fnOf "_law_draws" "_law_draws" (defArgs s_law_draws) (defBody s_law_draws) (defScope s_law_draws) .none kV8 dc8 pm8 an8 cd8 ct8), sl8⟩) (c8 : PySem.W.codeIn K cd8 "_law_draws" = true) (k8 : PySem.W.keepIn K (.ref f8) = true)
    (a9 : PySem.W.nsIn K mainGlobals "_law_mix" = some (some (.ref f9))) (l9 : K.lookup f9 = some ⟨oc9, od9, .func (PySem.W.fnOf "_law_mix" "_law_mix" (defArgs s_law_mix) (defBody s_law_mix) (defScope s_law_mix) .none kV9 dc9 pm9 an9 cd9 ct9), sl9⟩) (c9 : PySem.W.codeIn K cd9 "_law_mix" = true) (k9 : PySem.W.keepIn K (.ref f9) = true)
    (a10 : PySem.W.nsIn K mainGlobals "_law_common" = some (some (.ref f10))) (l10 : K.lookup f10 = some ⟨oc10, od10, .func (PySem.W.fnOf "_law_common" "_law_common" (defArgs s_law_common) (defBody s_law_common) (defScope s_law_common) .none kV10 dc10 pm10 an10 cd10 ct10), sl10⟩) (c10 : PySem.W.codeIn K cd10 "_law_common" = true) (k10 : PySem.W.keepIn K (.ref f10) = true)
    (a11 : PySem.W.nsIn K mainGlobals "_law_ratio" = some (some (.ref f11))) (l11 : K.lookup f11 = some ⟨oc11, od11, .func (PySem.W.fnOf "_law_ratio" "_law_ratio" (defArgs s_law_ratio) (defBody s_law_ratio) (defScope s_law_ratio) .none kV11 dc11 pm11 an11 cd11 ct11), sl11⟩) (c11 : PySem.W.codeIn K cd11 "_law_ratio" = true) (k11 : PySem.W.keepIn K (.ref f11) = true)
    (a12 : PySem.W.nsIn K mainGlobals "_law_drawn_ratio" = some (some (.ref f12))) (l12 : K.lookup f12 = some ⟨oc12, od12, .func (PySem.W.fnOf "_law_drawn_ratio" "_law_drawn_ratio" (defArgs s_law_drawn_ratio) (defBody s_law_drawn_ratio) (defScope s_law_drawn_ratio) .none kV12 dc12 pm12 an12 cd12 ct12), sl12⟩) (c12 : PySem.W.codeIn K cd12 "_law_drawn_ratio" = true) (k12 : PySem.W.keepIn K (.ref f12) = true)
    (a13 : PySem.W.nsIn K mainGlobals "_law_is_integer" = some (some (.ref f13))) (l13 : K.lookup f13 = some ⟨oc13, od13, .func (PySem.W.fnOf "_law_is_integer" "_law_is_integer" (defArgs s_law_is_integer) (defBody s_law_is_integer) (defScope s_law_is_integer) .none kV13 dc13 pm13 an13 cd13 ct13), sl13⟩) (c13 : PySem.W.codeIn K cd13 "_law_is_integer" = true) (k13 : PySem.W.keepIn K (.ref f13) = true)
    (a14 : PySem.W.nsIn K mainGlobals "_law_refused" = some (some (.ref f14))) (l14 : K.lookup f14 = some ⟨oc14, od14, .func (PySem.W.fnOf "_law_refused" "_law_refused" (defArgs s_law_refused) (defBody s_law_refused) (defScope s_law_refused) .none kV14 dc14 pm14 an14 cd14 ct14), sl14⟩) (c14 : PySem.W.codeIn K cd14 "_law_refused" = true) (k14 : PySem.W.keepIn K (.ref f14) = true)
    (a15 : PySem.W.nsIn K mainGlobals "_law_is_same" = some (some (.ref f15))) (l15 : K.lookup f15 = some ⟨oc15, od15, .func (PySem.W.fnOf "_law_is_same" "_law_is_same" (defArgs s_law_is_same) (defBody s_law_is_same) (defScope s_law_is_same) .none kV15 dc15 pm15 an15 cd15 ct15), sl15⟩) (c15 : PySem.W.codeIn K cd15 "_law_is_same" = true) (k15 : PySem.W.keepIn K (.ref f15) = true)
    (a16 : PySem.W.nsIn K mainGlobals "_law_integer" = some (some (.ref f16))) (l16 : K.lookup f16 = some ⟨oc16, od16, .func (PySem.W.fnOf "_law_integer" "_law_integer" (defArgs s_law_integer) (defBody s_law_integer) (defScope s_law_integer) .none kV16 dc16 pm16 an16 cd16 ct16), sl16⟩) (c16 : PySem.W.codeIn K cd16 "_law_integer" = true) (k16 : PySem.W.keepIn K (.ref f16) = true)
    (a17 : PySem.W.nsIn K mainGlobals "law" = some (some (.ref f17))) (l17 : K.lookup f17 = some ⟨oc17, od17, .func (PySem.W.fnOf "law" "law" (defArgs s_law) (defBody s_law) (defScope s_law) .none kV17 dc17 pm17 an17 cd17 ct17), sl17⟩) (c17 : PySem.W.codeIn K cd17 "law" = true) (k17 : PySem.W.keepIn K (.ref f17) = true)
    (z_abs : PySem.W.nsIn K mainGlobals "abs" = some none)
    (z_bool : PySem.W.nsIn K mainGlobals "bool" = some none)
    (z_int : PySem.W.nsIn K mainGlobals "int" = some none)
    (z_isinstance : PySem.W.nsIn K mainGlobals "isinstance" = some none)
    (z_len : PySem.W.nsIn K mainGlobals "len" = some none)
    (z_min : PySem.W.nsIn K mainGlobals "min" = some none)
    (z_range : PySem.W.nsIn K mainGlobals "range" = some none)
    (z_tuple : PySem.W.nsIn K mainGlobals "tuple" = some none)
    (y_gcd : PySem.W.nsIn K mainGlobals "gcd" = some (some (.builtin "math.gcd")))
    (aM : PySem.W.nsIn K mainGlobals "ModelError" = some (some (.ref CM)))
    (zV : PySem.W.nsIn K mainGlobals "ValueError" = some none)
    (vV : PySem.W.findCls K (.type "ValueError") (.type "type") "__init__" = some (.val (.builtin "ValueError.__init__")))
    (iM : PySem.W.isClsIn K CM = true)
    (tM : PySem.W.typeIn K (.ref CM) = some (.type "type"))
    (bM : PySem.W.subIn K (.ref CM) (.type "BaseException") = some true)
    (iI : PySem.W.findIn K (.ref CM) "__init__" = some (some (.ref fI)))
    (lI : K.lookup fI = some ⟨ocI, odI, .func (PySem.W.fnOf "__init__" "ModelError.__init__" (defArgs s_init) (defBody s_init) (defScope s_init) .none kVI dcI pmI anI cdI ctI), slI⟩)
    (cI : PySem.W.codeIn K cdI "ModelError.__init__" = true)
    (kI : PySem.W.keepIn K (.ref fI) = true)
    (tI : PySem.W.typeIn K (.ref fI) = some (.type "function"))
    (xsp : PySem.W.specialIn K (.builtin "object.__class__") "__get__" = some (some (.builtin "getset_descriptor.__get__")))
    (xtk : PySem.W.takesIn K (.builtin "object.__class__") = some true)
    (e0_a : PySem.W.nsIn K mainGlobals "NoRatio" = some (some (.ref e0_C)))
    (e0_x : K.lookup e0_C = some (excClassObj e0_nm e0_q e0_C e0_N e0_bs [.ref CM, .type "ValueError", .type "Exception", .type "BaseException", .type "object"] true e0_sn e0_sub e0_ab e0_col e0_dd e0_m0 e0_m1 (some (.str e0_nk e0_tk)) e0_m3 e0_m5 "ValueError.__new__"))
    (e0_sz : e0_nk.length ≤ 1000)
    (e0_sa : PySem.W.findIn K (.ref e0_C) "__setattr__" = some (some (.builtin "object.__setattr__")))
    (e0_ga : PySem.W.findIn K (.ref e0_C) "__getattribute__" = some (some (.builtin "BaseException.__getattribute__")))
    (e0_gg : PySem.W.findIn K (.ref e0_C) "__getattr__" = some none)
    (e0_no : PySem.W.findIn K (.ref e0_C) "at" = some none)
    (e0_in : PySem.W.findIn K (.ref e0_C) "__init__" = some (some (.ref fI)))
    (e0_be : PySem.W.subIn K (.ref e0_C) (.type "BaseException") = some true)
    (e0_ty : PySem.W.typeIn K (.ref e0_C) = some (.type "type"))
    (e0_ke : PySem.W.keepIn K (.ref e0_C) = true)
    (e0_hd : PySem.W.hasDictIn K e0_C = true)
    (e0_cl : PySem.W.isClsIn K e0_C = true)
    (e0_at : PySem.W.findIn K (.ref e0_C) "__class__" = some (some (.builtin "object.__class__")))
    (e0_mr : PySem.W.mroIn K e0_C (.type "object") = some true)
    (e0_rd : PySem.W.readsIn K e0_C (.type "type") = true)
    (e0_fc : PySem.W.findCls K (.ref e0_C) (.type "type") "__name__" = some (.get (.builtin "getset_descriptor.__get__") (.builtin "type.__name__") (.ref e0_C) (.type "type")))
    (e0_sM : PySem.W.subIn K (.ref e0_C) (.ref CM) = some true)
    : ∃ fd : FuncData, (∀ (s : Shared) (v : Value), BindsTo s fd ⟨[v], []⟩ [("script", v)]) ∧ ∀ base : Heap, K.In base → base.Ns mainGlobals mg → FnOk l.prog w K mg base CX0 6 fa fd ["script"] (sp_law K) := by
  have e := hfa.symm.trans (PySem.W.mg_of X G a17)
  cases e
  let T : Txt K mg := {
    wording := ⟨_, _, fun_mk (st := s_wording) l0 c0 k0, (fun_mk (st := s_wording) l0 c0 k0).binds (ps := ["name", "at"]) (fun _ _ _ _ _ _ us hl => match us, hl with | [_, _], _ => rfl), PySem.W.mg_of X G a0⟩
    lowest := ⟨_, _, fun_mk (st := s_lowest) l1 c1 k1, (fun_mk (st := s_lowest) l1 c1 k1).binds (ps := ["n", "d"]) (fun _ _ _ _ _ _ us hl => match us, hl with | [_, _], _ => rfl), PySem.W.mg_of X G a1⟩
    ratio := ⟨_, _, fun_mk (st := s_ratio) l2 c2 k2, (fun_mk (st := s_ratio) l2 c2 k2).binds (ps := ["n", "d"]) (fun _ _ _ _ _ _ us hl => match us, hl with | [_, _], _ => rfl), PySem.W.mg_of X G a2⟩
    is_ratio := ⟨_, _, fun_mk (st := s_is_ratio) l3 c3 k3, (fun_mk (st := s_is_ratio) l3 c3 k3).binds (ps := ["pair"]) (fun _ _ _ _ _ _ us hl => match us, hl with | [_], _ => rfl), PySem.W.mg_of X G a3⟩
    plus := ⟨_, _, fun_mk (st := s_plus) l4 c4 k4, (fun_mk (st := s_plus) l4 c4 k4).binds (ps := ["one", "two"]) (fun _ _ _ _ _ _ us hl => match us, hl with | [_, _], _ => rfl), PySem.W.mg_of X G a4⟩
    minus := ⟨_, _, fun_mk (st := s_minus) l5 c5 k5, (fun_mk (st := s_minus) l5 c5 k5).binds (ps := ["one", "two"]) (fun _ _ _ _ _ _ us hl => match us, hl with | [_, _], _ => rfl), PySem.W.mg_of X G a5⟩
    times := ⟨_, _, fun_mk (st := s_times) l6 c6 k6, (fun_mk (st := s_times) l6 c6 k6).binds (ps := ["one", "two"]) (fun _ _ _ _ _ _ us hl => match us, hl with | [_, _], _ => rfl), PySem.W.mg_of X G a6⟩
    over := ⟨_, _, fun_mk (st := s_over) l7 c7 k7, (fun_mk (st := s_over) l7 c7 k7).binds (ps := ["one", "two"]) (fun _ _ _ _ _ _ us hl => match us, hl with | [_, _], _ => rfl), PySem.W.mg_of X G a7⟩
    law_draws := ⟨_, _, fun_mk (st := s_law_draws) l8 c8 k8, (fun_mk (st := s_law_draws) l8 c8 k8).binds (ps := ["script"]) (fun _ _ _ _ _ _ us hl => match us, hl with | [_], _ => rfl), PySem.W.mg_of X G a8⟩
    law_mix := ⟨_, _, fun_mk (st := s_law_mix) l9 c9 k9, (fun_mk (st := s_law_mix) l9 c9 k9).binds (ps := ["draws", "k", "many"]) (fun _ _ _ _ _ _ us hl => match us, hl with | [_, _, _], _ => rfl), PySem.W.mg_of X G a9⟩
    law_common := ⟨_, _, fun_mk (st := s_law_common) l10 c10 k10, (fun_mk (st := s_law_common) l10 c10 k10).binds (ps := ["one", "two"]) (fun _ _ _ _ _ _ us hl => match us, hl with | [_, _], _ => rfl), PySem.W.mg_of X G a10⟩
    law_ratio := ⟨_, _, fun_mk (st := s_law_ratio) l11 c11 k11, (fun_mk (st := s_law_ratio) l11 c11 k11).binds (ps := ["n", "d"]) (fun _ _ _ _ _ _ us hl => match us, hl with | [_, _], _ => rfl), PySem.W.mg_of X G a11⟩
    law_drawn_ratio := ⟨_, _, fun_mk (st := s_law_drawn_ratio) l12 c12 k12, (fun_mk (st := s_law_drawn_ratio) l12 c12 k12).binds (ps := ["draws", "k"]) (fun _ _ _ _ _ _ us hl => match us, hl with | [_, _], _ => rfl), PySem.W.mg_of X G a12⟩
    law_is_integer := ⟨_, _, fun_mk (st := s_law_is_integer) l13 c13 k13, (fun_mk (st := s_law_is_integer) l13 c13 k13).binds (ps := ["actual"]) (fun _ _ _ _ _ _ us hl => match us, hl with | [_], _ => rfl), PySem.W.mg_of X G a13⟩
    law_refused := ⟨_, _, fun_mk (st := s_law_refused) l14 c14 k14, (fun_mk (st := s_law_refused) l14 c14 k14).binds (ps := ["way", "one", "two"]) (fun _ _ _ _ _ _ us hl => match us, hl with | [_, _, _], _ => rfl), PySem.W.mg_of X G a14⟩
    law_is_same := ⟨_, _, fun_mk (st := s_law_is_same) l15 c15 k15, (fun_mk (st := s_law_is_same) l15 c15 k15).binds (ps := ["told", "n", "d"]) (fun _ _ _ _ _ _ us hl => match us, hl with | [_, _, _], _ => rfl), PySem.W.mg_of X G a15⟩
    law_integer := ⟨_, _, fun_mk (st := s_law_integer) l16 c16 k16, (fun_mk (st := s_law_integer) l16 c16 k16).binds (ps := ["draws", "k"]) (fun _ _ _ _ _ _ us hl => match us, hl with | [_, _], _ => rfl), PySem.W.mg_of X G a16⟩
    law := ⟨_, _, fun_mk (st := s_law) l17 c17 k17, (fun_mk (st := s_law) l17 c17 k17).binds (ps := ["script"]) (fun _ _ _ _ _ _ us hl => match us, hl with | [_], _ => rfl), PySem.W.mg_of X G a17⟩
    m_abs := PySem.W.mg_none_of X G z_abs
    m_bool := PySem.W.mg_none_of X G z_bool
    m_int := PySem.W.mg_none_of X G z_int
    m_isinstance := PySem.W.mg_none_of X G z_isinstance
    m_len := PySem.W.mg_none_of X G z_len
    m_min := PySem.W.mg_none_of X G z_min
    m_range := PySem.W.mg_none_of X G z_range
    m_tuple := PySem.W.mg_none_of X G z_tuple
    x_gcd := PySem.W.mg_of X G y_gcd
  }
  let E : Errs K mg := {
    e0 := ⟨CM, fI, _, fun_mk (st := s_init) lI cI kI, (fun_mk (st := s_init) lI cI kI).binds (ps := ["self", "at"]) (fun _ _ _ _ _ _ us hl => match us, hl with | [_, _], _ => rfl), tI, PySem.W.mg_of X G aM, PySem.W.mg_none_of X G zV, vV⟩
    NoRatio := { C := e0_C, nm := e0_nk, named := ⟨⟨e0_cl, e0_ga, e0_gg, e0_be, e0_at, xsp, xtk, e0_mr⟩, e0_rd, e0_fc, e0_ty, ⟨_, _, e0_x, rfl⟩, e0_sz⟩, oex := ⟨⟨_, _, _, _, _, _, _, _, _, _, _, _, _, _, _, e0_x, LX.refs_one _⟩, e0_sa, e0_be, e0_ty, e0_ke⟩, noAt := e0_no, iC := e0_in, g := PySem.W.mg_of X G e0_a, exm := LX.exm_is bM iM tM e0_sM, kit := LX.kit_self _ _, xf := ⟨e0_ga, e0_gg, e0_be, e0_hd⟩ }
  }
  exact ⟨PySem.W.fnOf "law" "law" (defArgs s_law) (defBody s_law) (defScope s_law) .none kV17 dc17 pm17 an17 cd17 ct17, fun s v => .of_eq rfl, fun base _ _ => ok_law T E⟩
theorem walk {l : PySem.W.OpenLaw} {q : Program} {loose : List Str} {XP : (Str → Option Value) → Heap → Prop} {YP : World → Heap → Prop} {d : DefRec} {K : Params → PySem.W.Frag} (hn : l.most = some 63) (hdf : d.params.defaults = [])
    (hY : ∀ (w : World) (h : Heap), YP w h → (K w.params).In h)
    (F : ∀ (w : World) (mg : Str → Option Value) (fa : Addr) (h : Heap), (K w.params).In h → h.Ns mainGlobals mg → mg d.name = some (.ref fa) →
      ∃ fd : FuncData, (∀ (s : Shared) (u : Value), BindsTo s fd ⟨[u], []⟩ [("script", u)]) ∧ ∀ base : Heap, (K w.params).In base → base.Ns mainGlobals mg → FnOk l.prog w (K w.params) mg base CX0 6 fa fd ["script"] (sp_law (K w.params))) :
    PySem.W.WalkO q loose XP YP l.row.toRowW d [] (fun f vs => PySem.call f vs) :=
  L2.walk_of (n := 63) (k := 6) (x := "script") (CX := fun _ => CX0) (sp := fun w => sp_law (K w.params)) hn (by decide) hdf ⟨rfl, by decide, by decide⟩ hY F (fun _ _ a ns hl _ hS => ⟨a, ns, rfl, hS, hl, fun _ => rfl⟩) fun _ _ _ _ _ z => z
end
end K66

open PySem PySem.W PyProof.Rows in
set_option maxRecDepth 100000 in
set_option maxHeartbeats 0 in
theorem PySem.Challenge.cw_unsaidsizes_k66_ratios_holds : PySem.Challenge.rw_unsaidsizes_k66_ratios.Holds := by
  w_on; o_law; k_head; (case hw => w_witness2)
  k_fill
  refine K66.walk (l := PySem.Challenge.rw_unsaidsizes_k66_ratios) rfl rfl (fun w h Y => PySem.W.kIn_of Y) ?F
  case F =>
    intro w mg fa h KX G hmg
    refine' K66.all_mk KX G hmg ?a0 ?l0 ?c0 ?k0 ?a1 ?l1 ?c1 ?k1 ?a2 ?l2 ?c2 ?k2 ?a3 ?l3 ?c3 ?k3 ?a4 ?l4 ?c4 ?k4 ?a5 ?l5 ?c5 ?k5 ?a6 ?l6 ?c6 ?k6 ?a7 ?l7 ?c7 ?k7 ?a8 ?l8 ?c8 ?k8 ?a9 ?l9 ?c9 ?k9 ?a10 ?l10 ?c10 ?k10 ?a11 ?l11 ?c11 ?k11 ?a12 ?l12 ?c12 ?k12 ?a13 ?l13 ?c13 ?k13 ?a14 ?l14 ?c14 ?k14 ?a15 ?l15 ?c15 ?k15 ?a16 ?l16 ?c16 ?k16 ?a17 ?l17 ?c17 ?k17 ?z_abs ?z_bool ?z_int ?z_isinstance ?z_len ?z_min ?z_range ?z_tuple ?y_gcd ?aM ?zV ?vV ?iM ?tM ?bM ?iI ?lI ?cI ?kI ?tI ?xsp ?xtk ?e0_a ?e0_x ?e0_sz ?e0_sa ?e0_ga ?e0_gg ?e0_no ?e0_in ?e0_be ?e0_ty ?e0_ke ?e0_hd ?e0_cl ?e0_at ?e0_mr ?e0_rd ?e0_fc ?e0_sM
    (case a0 => k_is)
    (case l0 => k_is)
    (case c0 => k_is)
    (case k0 => k_is)
    (case a1 => k_is)
    (case l1 => k_is)
    (case c1 => k_is)
    (case k1 => k_is)
    (case a2 => k_is)
    (case l2 => k_is)
    (case c2 => k_is)
    (case k2 => k_is)
    (case a3 => k_is)
    (case l3 => k_is)
    (case c3 => k_is)
    (case k3 => k_is)
    (case a4 => k_is)
    (case l4 => k_is)
    (case c4 => k_is)
    (case k4 => k_is)
    (case a5 => k_is)
    (case l5 => k_is)
    (case c5 => k_is)
    (case k5 => k_is)
    (case a6 => k_is)
    (case l6 => k_is)
    (case c6 => k_is)
    (case k6 => k_is)
    (case a7 => k_is)
    (case l7 => k_is)
    (case c7 => k_is)
    (case k7 => k_is)
    (case a8 => k_is)
    (case l8 => k_is)
    (case c8 => k_is)
    (case k8 => k_is)
    (case a9 => k_is)
    (case l9 => k_is)
    (case c9 => k_is)
    (case k9 => k_is)
    (case a10 => k_is)
    (case l10 => k_is)
    (case c10 => k_is)
    (case k10 => k_is)
    (case a11 => k_is)
    (case l11 => k_is)
    (case c11 => k_is)
    (case k11 => k_is)
    (case a12 => k_is)
    (case l12 => k_is)
    (case c12 => k_is)
    (case k12 => k_is)
    (case a13 => k_is)
    (case l13 => k_is)
    (case c13 => k_is)
    (case k13 => k_is)
    (case a14 => k_is)
    (case l14 => k_is)
    (case c14 => k_is)
    (case k14 => k_is)
    (case a15 => k_is)
    (case l15 => k_is)
    (case c15 => k_is)
    (case k15 => k_is)
    (case a16 => k_is)
    (case l16 => k_is)
    (case c16 => k_is)
    (case k16 => k_is)
    (case a17 => k_is)
    (case l17 => k_is)
    (case c17 => k_is)
    (case k17 => k_is)
    (case z_abs => k_is)
    (case z_bool => k_is)
    (case z_int => k_is)
    (case z_isinstance => k_is)
    (case z_len => k_is)
    (case z_min => k_is)
    (case z_range => k_is)
    (case z_tuple => k_is)
    (case y_gcd => k_is)
    (case aM => k_is)
    (case zV => k_is)
    (case vV => k_is)
    (case iM => k_is)
    (case tM => k_is)
    (case bM => k_is)
    (case iI => k_is)
    (case lI => k_is)
    (case cI => k_is)
    (case kI => k_is)
    (case tI => k_is)
    (case xsp => k_is)
    (case xtk => k_is)
    (case e0_a => k_is)
    (case e0_x => k_is)
    (case e0_sz => decide +kernel)
    (case e0_sa => k_is)
    (case e0_ga => k_is)
    (case e0_gg => k_is)
    (case e0_no => k_is)
    (case e0_in => k_is)
    (case e0_be => k_is)
    (case e0_ty => k_is)
    (case e0_ke => k_is)
    (case e0_hd => k_is)
    (case e0_cl => k_is)
    (case e0_at => k_is)
    (case e0_mr => k_is)
    (case e0_rd => k_is)
    (case e0_fc => k_is)
    (case e0_sM => k_is)
