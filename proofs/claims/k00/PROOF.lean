import PyProof.Rows.All
import Wide.All
import OpenK.AllK
import Wide.FinOn
import HandS.Base
import HandS.Call
import HandS.List
import HandS.Comp
import HandS.Ends
import HandS.Iter
import HandS.Wide
import HandS.Words
import HandS.WordsList
import HandS.IsInst
import HandS.TupLe
import PySem.Challenge.RW_unsaidsizes_k00_polynomials
set_option Elab.async false
set_option linter.all false
set_option maxRecDepth 100000
set_option maxHeartbeats 2000000
namespace K00
/-! plain mathematics of lists of integers that stand for polynomials -/
abbrev cf (ns : List Int) (m : Nat) : Int := ns.getD m 0
theorem cf_lt {ns : List Int} {m : Nat} (h : m < ns.length) : cf ns m = ns[m] := by simp [cf, List.getD_eq_getElem?_getD, h]
theorem cf_ge {ns : List Int} {m : Nat} (h : ns.length ≤ m) : cf ns m = 0 := by simp [cf, List.getD_eq_getElem?_getD, List.getElem?_eq_none h]
theorem cf_some {ns : List Int} {m : Nat} {x : Int} (h : ns[m]? = some x) : cf ns m = x := by simp [cf, List.getD_eq_getElem?_getD, h]
theorem at_cf {ns : List Int} {m : Nat} (h : m < ns.length) : ns[m]? = some (cf ns m) := by rw [cf_lt h, List.getElem?_eq_getElem h]
theorem cf_cons_succ (a : Int) (r : List Int) (m : Nat) : cf (a :: r) (m + 1) = cf r m := by simp [cf]
theorem cf_cons_zero (a : Int) (r : List Int) : cf (a :: r) 0 = a := by simp [cf]

def trim : List Int → List Int
  | [] => []
  | a :: r => if trim r = [] ∧ a = 0 then [] else a :: trim r
/-- without a nought at the end -/
def Can (ns : List Int) : Prop := ns = [] ∨ cf ns (ns.length - 1) ≠ 0
instance (ns : List Int) : Decidable (Can ns) := by unfold Can; infer_instance

theorem cf_trim : ∀ (ns : List Int) (m : Nat), cf (trim ns) m = cf ns m
  | [], _ => rfl
  | a :: r, m => by
    unfold trim
    split
    · rename_i h
      have ih := cf_trim r
      rw [h.1] at ih
      cases m with
      | zero => rw [cf_cons_zero, h.2]; rfl
      | succ m => rw [cf_cons_succ, ← ih m]; rfl
    · cases m with
      | zero => rfl
      | succ m => rw [cf_cons_succ, cf_cons_succ, cf_trim r m]
theorem can_trim : ∀ ns : List Int, Can (trim ns)
  | [] => .inl rfl
  | a :: r => by
    unfold trim
    split
    · exact .inl rfl
    · rename_i h
      right
      rcases can_trim r with e | e
      · rw [e] at h ⊢
        have ha : a ≠ 0 := fun z => h ⟨rfl, z⟩
        simpa [cf] using ha
      · have hl : (trim r).length ≠ 0 := by
          intro z
          have z' : trim r = [] := List.length_eq_zero_iff.mp z
          rw [z'] at e
          exact e rfl
        show cf (a :: trim r) ((trim r).length + 1 - 1) ≠ 0
        have e2 : (trim r).length + 1 - 1 = ((trim r).length - 1) + 1 := by omega
        rw [e2, cf_cons_succ]
        exact e
theorem trim_len : ∀ ns : List Int, (trim ns).length ≤ ns.length
  | [] => Nat.le_refl _
  | a :: r => by
    unfold trim
    have := trim_len r
    split
    · exact Nat.zero_le _
    · simp only [List.length_cons]; omega
theorem len_le_of {a b : List Int} (ha : Can a) (h : ∀ m, cf a m = cf b m) : a.length ≤ b.length := by
  rcases ha with e | e
  · rw [e]; exact Nat.zero_le _
  · rcases Nat.lt_or_ge b.length a.length with q | q
    · exfalso
      apply e
      rw [h, cf_ge (by omega)]
    · exact q
theorem can_ext {a b : List Int} (ha : Can a) (hb : Can b) (h : ∀ m, cf a m = cf b m) : a = b := by
  have h1 := len_le_of ha h
  have h2 := len_le_of hb (fun m => (h m).symm)
  have hl : a.length = b.length := by omega
  refine List.ext_getElem hl fun m h3 h4 => ?_
  rw [← cf_lt h3, ← cf_lt h4, h m]
theorem trim_can {a : List Int} (h : Can a) : trim a = a := can_ext (can_trim a) h (cf_trim a)
theorem can_iff {a : List Int} : Can a ↔ trim a = a := ⟨trim_can, fun h => h ▸ can_trim a⟩
theorem trim_eq {a b : List Int} (h : ∀ m, cf a m = cf b m) : trim a = trim b := can_ext (can_trim a) (can_trim b) fun m => by rw [cf_trim, cf_trim, h]
theorem cf_take {ns : List Int} {L m : Nat} : cf (ns.take L) m = if m < L then cf ns m else 0 := by
  unfold cf
  rw [List.getD_eq_getElem?_getD, List.getD_eq_getElem?_getD, List.getElem?_take]
  split <;> rfl
theorem take_trim {ns : List Int} {L : Nat} (hL : L ≤ ns.length) (h0 : ∀ m, L ≤ m → cf ns m = 0) (h1 : L = 0 ∨ cf ns (L - 1) ≠ 0) : ns.take L = trim ns := by
  refine can_ext ?_ (can_trim ns) fun m => ?_
  · rcases h1 with e | e
    · exact .inl (by rw [e]; rfl)
    · have hp : 0 < L := by
        rcases Nat.eq_zero_or_pos L with z | z
        · subst z
          exfalso
          exact e (h0 _ (Nat.zero_le _))
        · exact z
      refine .inr ?_
      rw [List.length_take, Nat.min_eq_left hL, cf_take, if_pos (by omega)]
      exact e
  · rw [cf_trim, cf_take]
    split
    · rfl
    · rename_i q
      exact (h0 m (by omega)).symm

/-! sums -/
def padd (a b : List Int) : List Int := trim ((List.range (max a.length b.length)).map fun m => cf a m + cf b m)
theorem cf_map_range {n : Nat} {f : Nat → Int} {m : Nat} : cf ((List.range n).map f) m = if m < n then f m else 0 := by
  by_cases h : m < n
  · rw [if_pos h, cf_lt (by simpa using h)]
    simp
  · rw [if_neg h, cf_ge (by simpa using Nat.le_of_not_lt h)]
theorem cf_padd (a b : List Int) (m : Nat) : cf (padd a b) m = cf a m + cf b m := by
  unfold padd
  rw [cf_trim, cf_map_range]
  split
  · rfl
  · rename_i h
    rw [cf_ge (show a.length ≤ m by omega), cf_ge (show b.length ≤ m by omega)]
    rfl
theorem can_padd (a b : List Int) : Can (padd a b) := can_trim _
theorem padd_of {a b t : List Int} (h : ∀ m, cf t m = cf a m + cf b m) : trim t = padd a b := can_ext (can_trim _) (can_padd a b) fun m => by rw [cf_trim, cf_padd, h]
theorem padd_nil (a : List Int) : padd a [] = trim a := (padd_of (t := a) fun m => by show cf a m = cf a m + 0; omega).symm
theorem padd_len (a b : List Int) : (padd a b).length ≤ max a.length b.length := by
  unfold padd
  refine Nat.le_trans (trim_len _) ?_
  simp

/-! products -/
def conv (a b : List Int) : Nat → Nat → Int
  | 0, _ => 0
  | n + 1, m => conv a b n m + cf a n * (if n ≤ m then cf b (m - n) else 0)
theorem conv_out {a b : List Int} : ∀ {n m : Nat}, a.length + b.length ≤ m + 1 → n ≤ a.length → conv a b n m = 0
  | 0, _, _, _ => rfl
  | n + 1, m, h, hn => by
    unfold conv
    rw [conv_out h (by omega)]
    split
    · rw [cf_ge (show b.length ≤ m - n by omega)]; simp
    · simp
def pmul (a b : List Int) : List Int := trim ((List.range (a.length + b.length)).map fun m => conv a b a.length m)
theorem cf_pmul (a b : List Int) (m : Nat) : cf (pmul a b) m = conv a b a.length m := by
  unfold pmul
  rw [cf_trim, cf_map_range]
  split
  · rfl
  · rename_i h
    exact (conv_out (by omega) (Nat.le_refl _)).symm
theorem can_pmul (a b : List Int) : Can (pmul a b) := can_trim _
theorem pmul_of {a b t : List Int} (h : ∀ m, cf t m = conv a b a.length m) : trim t = pmul a b := can_ext (can_trim _) (can_pmul a b) fun m => by rw [cf_trim, cf_pmul, h]
theorem cf_shift {k : Nat} {r : List Int} {m : Nat} : cf (List.replicate k 0 ++ r) m = if k ≤ m then cf r (m - k) else 0 := by
  unfold cf
  rw [List.getD_eq_getElem?_getD, List.getD_eq_getElem?_getD]
  by_cases h : k ≤ m
  · rw [if_pos h, List.getElem?_append_right (by simpa using h)]
    simp
  · rw [if_neg h, List.getElem?_append_left (by simp; omega)]
    simp [List.getElem?_replicate, show m < k by omega]
theorem cf_scale {c : Int} {r : List Int} {m : Nat} : cf (r.map (c * ·)) m = c * cf r m := by
  unfold cf
  rw [List.getD_eq_getElem?_getD, List.getD_eq_getElem?_getD, List.getElem?_map]
  cases r[m]? <;> simp
/-- one turn of the reckoning by shifted multiples -/
theorem conv_turn {a b t : List Int} {n : Nat} (ht : ∀ m, cf t m = conv a b n m) (m : Nat) : cf (padd t (List.replicate n 0 ++ if cf a n ≠ 0 then b.map (cf a n * ·) else [])) m = conv a b (n + 1) m := by
  rw [cf_padd, ht, cf_shift]
  show _ = conv a b n m + cf a n * (if n ≤ m then cf b (m - n) else 0)
  by_cases q : n ≤ m
  · rw [if_pos q, if_pos q]
    by_cases h : cf a n = 0
    · rw [if_neg (fun z => z h), h]; simp [cf]
    · rw [if_pos h, cf_scale]
  · rw [if_neg q, if_neg q]; simp

/-! values -/
def pval (x : Int) : List Int → Int
  | [] => 0
  | a :: r => pval x r * x + a
theorem pval_last (x : Int) : ∀ (ns : List Int) (i : Nat), i < ns.length → pval x (ns.drop (ns.length - (i + 1))) = pval x (ns.drop (ns.length - i)) * x + cf ns (ns.length - 1 - i) := fun ns i h => by
  have e : ns.length - (i + 1) < ns.length := by omega
  rw [List.drop_eq_getElem_cons e]
  have e2 : ns.length - (i + 1) + 1 = ns.length - i := by omega
  rw [e2]
  show pval x (ns.drop (ns.length - i)) * x + _ = _
  rw [← cf_lt e]
  congr 2
  omega
theorem pow_bound {x : Int} (hx : x.natAbs ≤ 1000) : ∀ i : Nat, (x ^ i).natAbs < 2 ^ (10 * i + 1)
  | 0 => by rw [Int.pow_zero]; decide
  | i + 1 => by
    rw [Int.pow_succ, Int.natAbs_mul]
    have h := pow_bound hx i
    have e : 2 ^ (10 * (i + 1) + 1) = 2 ^ (10 * i + 1) * 1024 := by
      rw [show 10 * (i + 1) + 1 = (10 * i + 1) + 10 by omega, Nat.pow_add]
    rw [e]
    exact Nat.mul_lt_mul'' h (by omega)
open PySem PySem.Spec PyProof.Rows L2
def topS (i : Nat) : Stmt := PySem.Challenge.pw_unsaidsizes_k00_polynomials.main.body.getD i (.Pass ⟨0, 0, 0, 0⟩)
abbrev s_is_polynomial : Stmt := topS 1
theorem sc_is_polynomial : FnScope ["numbers"] ["numbers"] (defScope s_is_polynomial) := ⟨rfl, rfl, rfl, by decide +kernel, rfl, by decide +kernel, by decide +kernel⟩
abbrev s_trimmed : Stmt := topS 2
theorem sc_trimmed : FnScope ["numbers", "length"] ["numbers"] (defScope s_trimmed) := ⟨rfl, rfl, rfl, by decide +kernel, rfl, by decide +kernel, by decide +kernel⟩
abbrev s_degree : Stmt := topS 3
theorem sc_degree : FnScope ["one"] ["one"] (defScope s_degree) := ⟨rfl, rfl, rfl, by decide +kernel, rfl, by decide +kernel, by decide +kernel⟩
abbrev s_value : Stmt := topS 4
theorem sc_value : FnScope ["one", "at", "total", "number"] ["one", "at"] (defScope s_value) := ⟨rfl, rfl, rfl, by decide +kernel, rfl, by decide +kernel, by decide +kernel⟩
abbrev s_plus : Stmt := topS 5
theorem sc_plus : FnScope ["one", "two", "length", "total", "k", "number"] ["one", "two"] (defScope s_plus) := ⟨rfl, rfl, rfl, by decide +kernel, rfl, by decide +kernel, by decide +kernel⟩
abbrev s_times : Stmt := topS 6
theorem sc_times : FnScope ["one", "two", "total", "k", "number", "m", "other"] ["one", "two"] (defScope s_times) := ⟨rfl, rfl, rfl, by decide +kernel, rfl, by decide +kernel, by decide +kernel⟩
abbrev s_scaled : Stmt := topS 7
theorem sc_scaled : FnScope ["one", "number", "own"] ["one", "number"] (defScope s_scaled) := ⟨rfl, rfl, rfl, by decide +kernel, rfl, by decide +kernel, by decide +kernel⟩
abbrev s_raised : Stmt := topS 8
theorem sc_raised : FnScope ["one", "k"] ["one", "k"] (defScope s_raised) := ⟨rfl, rfl, rfl, by decide +kernel, rfl, by decide +kernel, by decide +kernel⟩
abbrev s_law_draws : Stmt := topS 10
theorem sc_law_draws : FnScope ["script", "draws", "k", "rest", "turn", "mixed"] ["script"] (defScope s_law_draws) := ⟨rfl, rfl, rfl, by decide +kernel, rfl, by decide +kernel, by decide +kernel⟩
abbrev s_law_at : Stmt := topS 11
theorem sc_law_at : FnScope ["draws", "k", "many"] ["draws", "k", "many"] (defScope s_law_at) := ⟨rfl, rfl, rfl, by decide +kernel, rfl, by decide +kernel, by decide +kernel⟩
abbrev s_law_is_integer : Stmt := topS 12
theorem sc_law_is_integer : FnScope ["actual"] ["actual"] (defScope s_law_is_integer) := ⟨rfl, rfl, rfl, by decide +kernel, rfl, by decide +kernel, by decide +kernel⟩
abbrev s_law_number : Stmt := topS 13
theorem sc_law_number : FnScope ["draws", "k", "kind", "cell", "side"] ["draws", "k"] (defScope s_law_number) := ⟨rfl, rfl, rfl, by decide +kernel, rfl, by decide +kernel, by decide +kernel⟩
abbrev s_law_poly : Stmt := topS 14
theorem sc_law_poly : FnScope ["draws", "k", "most", "m", "numbers", "last"] ["draws", "k", "most"] (defScope s_law_poly) := ⟨rfl, rfl, rfl, by decide +kernel, rfl, by decide +kernel, by decide +kernel⟩
abbrev s_law_is_poly : Stmt := topS 15
theorem sc_law_is_poly : FnScope ["actual", "number"] ["actual"] (defScope s_law_is_poly) := ⟨rfl, rfl, rfl, by decide +kernel, rfl, by decide +kernel, by decide +kernel⟩
abbrev s_law_plus : Stmt := topS 16
theorem sc_law_plus : FnScope ["one", "two", "k", "total", "last"] ["one", "two"] (defScope s_law_plus) := ⟨rfl, rfl, rfl, by decide +kernel, rfl, by decide +kernel, by decide +kernel⟩
abbrev s_law_times : Stmt := topS 17
theorem sc_law_times : FnScope ["one", "two", "total", "k", "m", "number"] ["one", "two"] (defScope s_law_times) := ⟨rfl, rfl, rfl, by decide +kernel, rfl, by decide +kernel, by decide +kernel⟩
abbrev s_law_value : Stmt := topS 18
theorem sc_law_value : FnScope ["one", "at", "total", "power", "number"] ["one", "at"] (defScope s_law_value) := ⟨rfl, rfl, rfl, by decide +kernel, rfl, by decide +kernel, by decide +kernel⟩
abbrev s_law_drawn : Stmt := topS 19
theorem sc_law_drawn : FnScope ["draws", "first", "step", "k"] ["draws", "first"] (defScope s_law_drawn) := ⟨rfl, rfl, rfl, by decide +kernel, rfl, by decide +kernel, by decide +kernel⟩
abbrev s_law : Stmt := topS 20
theorem sc_law : FnScope ["script", "draws", "one", "two", "kept", "number", "power", "at", "due", "turn", "told", "each", "loose", "short", "k", "part"] ["script"] (defScope s_law) := ⟨rfl, rfl, rfl, by decide +kernel, rfl, by decide +kernel, by decide +kernel⟩
/-- a def as it stands behind the top -/
structure Def (K : PySem.W.Frag) (mg : Str → Option Value) (x : Str) (st : Stmt) (ps : List Str) where
  a : Addr
  fd : FuncData
  F : Fun K x x st a fd
  b : Binds K fd ps []
  g : mg x = some (.ref a)
structure Txt (K : PySem.W.Frag) (mg : Str → Option Value) where
  is_polynomial : Def K mg "is_polynomial" s_is_polynomial ["numbers"]
  trimmed : Def K mg "trimmed" s_trimmed ["numbers"]
  degree : Def K mg "degree" s_degree ["one"]
  value : Def K mg "value" s_value ["one", "at"]
  plus : Def K mg "plus" s_plus ["one", "two"]
  times : Def K mg "times" s_times ["one", "two"]
  scaled : Def K mg "scaled" s_scaled ["one", "number"]
  raised : Def K mg "raised" s_raised ["one", "k"]
  law_draws : Def K mg "_law_draws" s_law_draws ["script"]
  law_at : Def K mg "_law_at" s_law_at ["draws", "k", "many"]
  law_is_integer : Def K mg "_law_is_integer" s_law_is_integer ["actual"]
  law_number : Def K mg "_law_number" s_law_number ["draws", "k"]
  law_poly : Def K mg "_law_poly" s_law_poly ["draws", "k", "most"]
  law_is_poly : Def K mg "_law_is_poly" s_law_is_poly ["actual"]
  law_plus : Def K mg "_law_plus" s_law_plus ["one", "two"]
  law_times : Def K mg "_law_times" s_law_times ["one", "two"]
  law_value : Def K mg "_law_value" s_law_value ["one", "at"]
  law_drawn : Def K mg "_law_drawn" s_law_drawn ["draws", "first"]
  law : Def K mg "law" s_law ["script"]
  m_abs : mg "abs" = none
  m_all : mg "all" = none
  m_bool : mg "bool" = none
  m_enumerate : mg "enumerate" = none
  m_int : mg "int" = none
  m_isinstance : mg "isinstance" = none
  m_len : mg "len" = none
  m_list : mg "list" = none
  m_max : mg "max" = none
  m_min : mg "min" = none
  m_range : mg "range" = none
  m_repr : mg "repr" = none
  m_reversed : mg "reversed" = none

/-! ### short words -/
/-- a list of ints stands at a -/
def IL (H : Hp) (a : Addr) (ns : List Int) : Prop := H a = some (.lst (ns.map V.int))
theorem IL.sq {K : PySem.W.Frag} {H : Hp} {a : Addr} {ns : List Int} (h : IL H a ns) : SqL K H a (ns.map V.int) := SqL.of h
theorem IL.same {H H' : Hp} {a : Addr} {ns : List Int} (h : IL H a ns) (s : Same H H') : IL H' a ns := s _ _ h
/-- a new list is handed back -/
def Out (H : Hp) (Q : VK) (r : List Int) : Prop := ∀ H' p, Same H H' → H p = none → IL H' p r → Q (.ref p) H'
theorem same_upd {H : Hp} {p : Addr} {o : HO} (h : H p = none) : Same H (upd H p o) := fun b x e => by
  rw [upd_ne (ne_of_none e h)]
  exact e
/-- a new object is changed: what stood before it stays -/
theorem same_over {H H' : Hp} {p : Addr} {o : HO} (s : Same H H') (h : H p = none) : Same H (upd H' p o) := fun b x e => by
  rw [upd_ne (ne_of_none e h)]
  exact s _ _ e
theorem il_upd {H : Hp} {p : Addr} {ns : List Int} : IL (upd H p (.lst (ns.map V.int))) p ns := upd_same
theorem il_ne {H : Hp} {p q : Addr} {o : HO} {ns : List Int} (h : IL H q ns) (n : H p = none) : IL (upd H p o) q ns := by
  show upd H p o q = _
  rw [upd_ne (ne_of_none h n)]
  exact h
theorem il_upd_ne {H : Hp} {p q : Addr} {o : HO} {ns : List Int} (h : IL H q ns) (n : q ≠ p) : IL (upd H p o) q ns := by
  show upd H p o q = _
  rw [upd_ne n]
  exact h
theorem il_app {ns : List Int} {x : Int} : (ns.map V.int) ++ [V.int x] = (ns ++ [x]).map V.int := by rw [List.map_append]; rfl
theorem map_at {ns : List Int} {m : Nat} (h : m < ns.length) : (ns.map V.int)[m]? = some (V.int (cf ns m)) := by
  rw [List.getElem?_map, at_cf h]; rfl
theorem map_get {ns : List Int} {m : Nat} {x : V} (h : (ns.map V.int)[m]? = some x) : m < ns.length ∧ x = V.int (cf ns m) := by
  have hl := (List.getElem?_eq_some_iff.mp h).1
  rw [List.length_map] at hl
  exact ⟨hl, Option.some.inj (h.symm.trans (map_at hl))⟩
theorem at_map {ns : List Int} {m : Nat} (h : m < ns.length) : atI (ns.map V.int) (m : Int) = some (V.int (cf ns m)) := atI_nat (map_at h)
theorem at_map' {ns : List Int} {i : Int} {m : Nat} (e : i = (m : Int)) (h : m < ns.length) : atI (ns.map V.int) i = some (V.int (cf ns m)) := by rw [e]; exact at_map h
theorem at_last {ns : List Int} (h : ns ≠ []) : atI (ns.map V.int) (-1) = some (V.int (cf ns (ns.length - 1))) := by
  have hp : 0 < ns.length := by
    rcases Nat.eq_zero_or_pos ns.length with z | z
    · exact absurd (List.length_eq_zero_iff.mp z) h
    · exact z
  have e : ns.map V.int = (ns.map V.int).dropLast ++ [V.int (cf ns (ns.length - 1))] := by
    refine List.ext_getElem? fun i => ?_
    rcases Nat.lt_or_ge i (ns.length - 1) with q | q
    · rw [List.getElem?_append_left (by simp; exact q), List.getElem?_dropLast, if_pos (by simpa using q)]
    · rw [List.getElem?_append_right (by simp; omega)]
      rcases Nat.eq_or_lt_of_le q with z | z
      · rw [← z, map_at (by omega)]; simp
      · rw [List.getElem?_eq_none (by simp; omega), List.getElem?_eq_none (by simp; omega)]
  rw [e]
  exact atI_last _ _
theorem small {n : Nat} (h : n ≤ 60000) : n ≤ sizeLine := Nat.le_trans h (by decide)
theorem small' {n : Nat} (h : n < 60000) : n < sizeLine := Nat.lt_of_lt_of_le h (by decide)
theorem cut_to {ns : List Int} {L : Nat} (h : L ≤ ns.length) : cutV (ns.map V.int) none (some (L : Int)) = (ns.take L).map V.int := by
  unfold cutV
  rw [HT.sIx_none, HT.sIx_nat, List.drop_zero, List.length_map, Nat.min_eq_left h, Nat.sub_zero, List.map_take]
theorem len_set {xs : List Int} {j : Nat} {y : Int} : (xs.map V.int).set j (V.int y) = (xs.set j y).map V.int := by rw [List.map_set]
theorem cf_set {xs : List Int} {j : Nat} {y : Int} {m : Nat} (h : j < xs.length) : cf (xs.set j y) m = if m = j then y else cf xs m := by
  unfold cf
  rw [List.getD_eq_getElem?_getD, List.getD_eq_getElem?_getD]
  by_cases e : m = j
  · rw [if_pos e, e, List.getElem?_set_self h]; rfl
  · rw [if_neg e, List.getElem?_set_ne (Ne.symm e)]
theorem ix_ok {n j : Nat} {i : Int} (e : i = (j : Int)) (h : j < n) : ixN n i = some j := by
  unfold ixN
  rw [if_pos (by omega), if_pos (by omega), e]; rfl
/-! data -/
def dI (ns : List Int) : PyData := .list (ns.map .int)
theorem dp_all {K : PySem.W.Frag} {H : Hp} : ∀ ns : List Int, DpAll K H (ns.map V.int) (ns.map PyData.int)
  | [] => .nil
  | n :: r => .cons (.int n) (dp_all r)
theorem IL.dp {K : PySem.W.Frag} {H : Hp} {a : Addr} {ns : List Int} (h : IL H a ns) : Dp K H (.ref a) (dI ns) := .lst h.sq (dp_all ns)

theorem eqv_ints : ∀ ns ms : List Int, PyData.eqvAll (ns.map PyData.int) (ms.map PyData.int) = decide (ns = ms)
  | [], [] => rfl
  | [], _ :: _ => rfl
  | _ :: _, [] => rfl
  | n :: r, m :: q => by
    show (PyData.eqv (.int n) (.int m) && PyData.eqvAll (r.map PyData.int) (q.map PyData.int)) = _
    rw [eqv_ints r q]
    show (n == m && decide (r = q)) = decide (n :: r = m :: q)
    by_cases h1 : n = m
    · by_cases h2 : r = q
      · simp [h1, h2]
      · simp [h1, h2]
    · simp [h1]
theorem eqv_dI (ns ms : List Int) : PyData.eqv (dI ns) (dI ms) = decide (ns = ms) := by
  show PyData.eqvAll _ _ = _
  exact eqv_ints ns ms
theorem lay_ints : ∀ ns : List Int, PyData.canLayAll0 (ns.map PyData.int) = true
  | [] => rfl
  | n :: r => by
    show (PyData.canLay0 (.int n) && PyData.canLayAll0 (r.map PyData.int)) = true
    rw [lay_ints r]; rfl
theorem depth_ints : ∀ ns : List Int, PyData.depthAll (ns.map PyData.int) = 0
  | [] => rfl
  | n :: r => by
    show max (PyData.depth (.int n)) (PyData.depthAll (r.map PyData.int)) = 0
    rw [depth_ints r]; rfl
theorem depth_dI (ns : List Int) : PyData.depth (dI ns) = 1 := by
  show PyData.depthAll (ns.map PyData.int) + 1 = 1
  rw [depth_ints]
theorem shaped_of {d : PyData} (h1 : d.canLay0 = true) (h2 : d.depth ≤ 64) : SeqAt.shaped d = true := by
  unfold SeqAt.shaped
  rw [h1, decide_eq_true h2]; rfl
theorem shaped_dI (ns : List Int) : SeqAt.shaped (dI ns) = true := shaped_of (lay_ints ns) (by rw [depth_dI]; decide)
/-- lists, tuples of such lists -/
theorem lay_lists : ∀ xs : List (List Int), PyData.canLayAll0 (xs.map dI) = true
  | [] => rfl
  | n :: r => by
    show (PyData.canLay0 (dI n) && PyData.canLayAll0 (r.map dI)) = true
    rw [lay_lists r, SeqAt.canLay_of_shaped (shaped_dI n)]; rfl
theorem depth_lists : ∀ xs : List (List Int), PyData.depthAll (xs.map dI) ≤ 1
  | [] => by decide
  | n :: r => by
    show max (PyData.depth (dI n)) (PyData.depthAll (r.map dI)) ≤ 1
    rw [depth_dI]
    exact Nat.max_le.mpr ⟨Nat.le_refl _, depth_lists r⟩
theorem shaped_LL (xs : List (List Int)) : SeqAt.shaped (.list (xs.map dI)) = true :=
  shaped_of (lay_lists xs) (Nat.le_trans (Nat.succ_le_succ (depth_lists xs)) (by decide))
theorem shaped_LT (xs : List (List Int)) : SeqAt.shaped (.tuple (xs.map dI)) = true :=
  shaped_of (lay_lists xs) (Nat.le_trans (Nat.succ_le_succ (depth_lists xs)) (by decide))
theorem eqv_LL (xs : List (List Int)) : PyData.eqv (.list (xs.map dI)) (.list (xs.map dI)) = true := SeqAt.eqv_refl _ (SeqAt.canLay_of_shaped (shaped_LL xs))
theorem eqv_LT (xs : List (List Int)) : PyData.eqv (.tuple (xs.map dI)) (.tuple (xs.map dI)) = true := SeqAt.eqv_refl _ (SeqAt.canLay_of_shaped (shaped_LT xs))
section
variable {P : Program} {w : World} {K : PySem.W.Frag} {mg : Str → Option Value} {base : Heap}
/-- a for over reversed(a list of ints) -/
theorem for_revL {K : PySem.W.Frag} {a : Addr} {ns : List Int} {g : TG} {tb : TS} {D : Ends} {σ : L2.St} {H : Hp} (Pv : Nat → L2.St → Hp → Prop) (h0 : Pv 0 σ H) (hl : ∀ i σ H, i ≤ ns.length → Pv i σ H → SqL K H a (ns.map V.int))
    (hs : ∀ i σ H, i < ns.length → Pv i σ H → g (.int (cf ns (ns.length - 1 - i))) σ H fun σ2 H2 => tb { D with nx := Pv (i + 1), ct := Pv (i + 1), bk := D.nx } σ2 H2) (hd : ∀ σ H, Pv ns.length σ H → D.nx σ H) :
    ∃ W : Nat → Nat → L2.St → Hp → Prop, (∃ m, W 0 m σ H) ∧ ∀ i m σ H, W i m σ H →
      ((Itv K a (ns.map V.int).length).stop i H ∧ D.nx σ H) ∨ ((Itv K a (ns.map V.int).length).go i H ∧ ∃ N : L2.St → Hp → Prop, (∀ σ' H', N σ' H' → ∃ m', m' < m ∧ W (i + 1) m' σ' H') ∧ ∀ x H', (Itv K a (ns.map V.int).length).yld i H x H' → g x σ H' fun σ2 H2 => tb { D with nx := N, ct := N, bk := D.nx } σ2 H2) := by
  refine ⟨fun i m σ H => m = ns.length - i ∧ i ≤ ns.length ∧ Pv i σ H, ⟨ns.length, by simp, Nat.zero_le _, h0⟩, ?_⟩
  rintro i m σ H ⟨rfl, hi, p⟩
  have q := hl i σ H hi p
  by_cases hlt : i < ns.length
  · refine .inr ⟨⟨by rw [List.length_map]; exact hlt, _, _, q, map_at (m := (ns.map V.int).length - 1 - i) (by rw [List.length_map]; omega)⟩, Pv (i + 1), fun σ' H' p' => ⟨ns.length - (i + 1), by omega, rfl, hlt, p'⟩, fun x H' y => ?_⟩
    obtain ⟨e, y⟩ := y
    subst e
    have e2 := (map_get (y _ q)).2
    rw [List.length_map] at e2
    subst e2
    exact hs i σ _ hlt p
  · have e : i = ns.length := by omega
    subst e
    exact .inl ⟨by show (ns.map V.int).length ≤ ns.length; rw [List.length_map]; exact Nat.le_refl _, hd σ H p⟩

def sp_trimmed : Sp := fun vs H Q _ => ∃ (a : Addr) (ns : List Int), vs = [.ref a] ∧ IL H a ns ∧ ns.length ≤ 1000 ∧ Out H Q (trim ns)
theorem ok_trimmed (T : Txt K mg) : FnOk P w K mg base CX0 1 T.trimmed.a T.trimmed.fd ["numbers"] sp_trimmed := by
  refine T.trimmed.F.ok sc_trimmed (fun vs H Q E h => ?_) (fun cdv A outer s H vs Q E hr h => ?_)
  · obtain ⟨a, ns, rfl, _⟩ := h
    rfl
  · obtain ⟨a, ns, rfl, ha, hl, q⟩ := h
    refine ⟨_, (pss_cons (ps_set (i := 1) sc_trimmed.nd rfl (.inl rfl) (pe_callB call_len_seq (by rfl) T.m_len (by decide +kernel) (pa_cons (pv 0) pa_nil)))
      (pss_cons (ps_while PassesOwn.never (PW.pt (pw_and (pt_cmpR op_gt (pv 1) pe_int (nomark _)) (pw_and1 (pt_cmpR op_eq (pe_ix ix_list (pv 0) (pe_op op_sub (pv 1) pe_int) (fun _ _ => rfl)) pe_int (nomark _)))))
        (pss_one (ps_aug (i := 1) sc_trimmed.nd rfl (.inl rfl) pe_int ip_sub)))
      (pss_one (ps_ret (pe_slice sl_list (pv 0) po_none (po_some (pv 1))))))), ?_⟩
    refine ⟨.ref a, rfl, a, _, rfl, .inl ha.sq, ?_⟩
    refine while_by (fun σ H' => H' = H ∧ ∃ L : Nat, σ = [some (.ref a), some (.int L)] ∧ L ≤ ns.length ∧ ∀ m, L ≤ m → cf ns m = 0) (fun σ _ => match σ with | [_, some (.int L)] => L.toNat | _ => 0) ?_ ?_ ?_
    · exact ⟨rfl, ns.length, by rw [List.length_map]; rfl, Nat.le_refl _, fun m h => cf_ge h⟩
    · rintro σ H' ⟨rfl, L, rfl, hL, hz⟩
      refine ⟨_, rfl, _, _, rfl, rfl, _, rfl, ?_⟩
      by_cases h0 : (0 : Int) < (L : Int)
      · rw [decide_eq_true h0]
        refine iteT ⟨.ref a, rfl, _, rfl, _, _, rfl, rfl, a, _, _, _, rfl, rfl, ha.sq, at_map' (m := L - 1) (by omega) (by omega), rfl, _, rfl, ?_⟩
        by_cases h1 : cf ns (L - 1) = 0
        · rw [h1]
          refine iteT ⟨_, rfl, _, _, rfl, rfl, ⟨rfl, L - 1, ?_, by omega, fun m hm => ?_⟩, ?_⟩
          · show [some (V.ref a), some (V.int ((L : Int) - 1))] = _
            rw [show ((L : Int) - 1) = ((L - 1 : Nat) : Int) by omega]
          · rcases Nat.lt_or_ge m L with q | q
            · rw [show m = L - 1 by omega]; exact h1
            · exact hz m q
          · show ((L : Int) - 1).toNat < (L : Int).toNat
            omega
        · rw [show decide (V.int (cf ns (L - 1)) = V.int 0) = false from decide_eq_false (fun z => h1 (V.int.inj z))]
          refine iteF ⟨.ref a, rfl, _, rfl, _, rfl, a, _, rfl, ha.sq, fun p hp => ?_⟩
          rw [cut_to hL, take_trim hL hz (.inr h1)]
          exact q _ _ (same_upd hp) hp il_upd
      · rw [decide_eq_false h0]
        refine iteF (iteF ⟨.ref a, rfl, _, rfl, _, rfl, a, _, rfl, ha.sq, fun p hp => ?_⟩)
        rw [cut_to hL, take_trim hL hz (.inl (by omega))]
        exact q _ _ (same_upd hp) hp il_upd
    · rintro σ H' Q1 Q2 hQ ⟨v, e1, i, j, e2, e3, k, e4, h⟩
      refine ⟨v, e1, i, j, e2, e3, k, e4, ?_⟩
      cases k with
      | true =>
        obtain ⟨b, e5, i', e6, x, y, e7, e8, p, xs, ii, vv, e9, e10, e11, e12, e13, k', e14, h⟩ := h
        exact ⟨b, e5, i', e6, x, y, e7, e8, p, xs, ii, vv, e9, e10, e11, e12, e13, k', e14, hQ _ _ h⟩
      | false => exact hQ _ _ h

def sp_degree : Sp := fun vs H Q _ => ∃ (a : Addr) (ns : List Int), vs = [.ref a] ∧ IL H a ns ∧ Q (.int ((ns.length : Int) - 1)) H
theorem ok_degree (T : Txt K mg) : FnOk P w K mg base CX0 1 T.degree.a T.degree.fd ["one"] sp_degree := by
  refine T.degree.F.ok sc_degree (fun vs H Q E h => ?_) (fun cdv A outer s H vs Q E hr h => ?_)
  · obtain ⟨a, ns, rfl, _⟩ := h
    rfl
  · obtain ⟨a, ns, rfl, ha, q⟩ := h
    refine ⟨_, (pss_one (ps_ret (pe_op op_sub (pe_callB call_len_seq (by rfl) T.m_len (by decide +kernel) (pa_cons (pv 0) pa_nil)) pe_int))), ?_⟩
    refine ⟨.ref a, rfl, a, _, rfl, .inl ha.sq, _, _, rfl, rfl, ?_⟩
    rw [List.length_map]
    exact q

def sp_is_polynomial : Sp := fun vs H Q _ => ∃ (a : Addr) (ns : List Int), vs = [.ref a] ∧ IL H a ns ∧ ∀ H', Same H H' → Q (.bl (decide (Can ns))) H'
theorem can_last {ns : List Int} (h : ns ≠ []) : (!decide (V.int (cf ns (ns.length - 1)) = V.int 0)) = decide (Can ns) := by
  by_cases e : cf ns (ns.length - 1) = 0
  · rw [e, decide_eq_false (p := Can ns) (fun z => z.elim h (fun z => z e))]
    rfl
  · rw [decide_eq_true (p := Can ns) (.inr e), decide_eq_false (fun z => e (V.int.inj z))]
    rfl
theorem ok_is_polynomial (T : Txt K mg) : FnOk P w K mg base CX0 1 T.is_polynomial.a T.is_polynomial.fd ["numbers"] sp_is_polynomial := by
  refine T.is_polynomial.F.ok sc_is_polynomial (fun vs H Q E h => ?_) (fun cdv A outer s H vs Q E hr h => ?_)
  · obtain ⟨a, ns, rfl, _⟩ := h
    rfl
  · obtain ⟨a, ns, rfl, ha, q⟩ := h
    refine ⟨_, (pss_one (ps_ret (pe_or (pe_cmpR (op_eqD hr.units) (pv 0) (pe_lst pa_nil) (nomark _)) (pe_one (pe_cmpR op_ne (pe_ix ix_list (pv 0) (pe_un un_neg pe_int) (fun _ _ => rfl)) pe_int (nomark _)))))), ?_⟩
    refine ⟨.ref a, rfl, Nat.zero_le _, fun p hp => ⟨_, _, (il_ne ha hp).dp, (il_upd (ns := [])).dp, shaped_dI _, shaped_dI _, _, rfl, ?_⟩⟩
    rw [eqv_dI]
    by_cases e : ns = []
    · rw [decide_eq_true e]
      refine iteT ?_
      have := q _ (same_upd (o := .lst []) hp)
      rw [decide_eq_true (p := Can ns) (.inl e)] at this
      exact this
    · rw [decide_eq_false e]
      refine iteF ⟨.ref a, rfl, _, rfl, a, _, _, _, rfl, rfl, (il_ne ha hp).sq, at_last e, rfl, ?_⟩
      rw [can_last e]
      exact q _ (same_upd hp)

def sp_value : Sp := fun vs H Q _ => ∃ (a : Addr) (ns : List Int) (x : Int), vs = [.ref a, .int x] ∧ IL H a ns ∧ x.natAbs ≤ 1000 ∧ Q (.int (pval x ns)) H
theorem ok_value (T : Txt K mg) : FnOk P w K mg base CX0 1 T.value.a T.value.fd ["one", "at"] sp_value := by
  refine T.value.F.ok sc_value (fun vs H Q E h => ?_) (fun cdv A outer s H vs Q E hr h => ?_)
  · obtain ⟨a, ns, x, rfl, _⟩ := h
    rfl
  · obtain ⟨a, ns, x, rfl, ha, hx, q⟩ := h
    refine ⟨_, (pss_cons (ps_set (i := 2) sc_value.nd rfl (.inl rfl) pe_int)
      (pss_cons (ps_for PassesOwn.never rfl (pi_reversed (by rfl) T.m_reversed (pa_cons (pv 0) pa_nil)) (pg_name (i := 3) sc_value.nd rfl (.inl rfl))
        (pss_one (ps_set (i := 2) sc_value.nd rfl (.inl rfl) (pe_op op_add (pe_op op_mul (pv 2) (pv 1)) (pv 3)))))
      (pss_one (ps_ret (pv 2))))), ?_⟩
    refine ⟨.ref a, rfl, a, _, rfl, ha.sq, ?_⟩
    refine for_revL (ns := ns) (fun i σ H' => H' = H ∧ ∃ v3, σ = [some (.ref a), some (.int x), some (.int (pval x (ns.drop (ns.length - i)))), v3]) ⟨rfl, none, ?_⟩ (fun i σ H' hi p => ?_) (fun i σ H' hi p => ?_) (fun σ H' p => ?_)
    · rw [Nat.sub_zero, List.drop_length]; rfl
    · rw [p.1]; exact ha.sq
    · obtain ⟨rfl, v3, rfl⟩ := p
      refine ⟨_, rfl, _, rfl, _, _, rfl, rfl, .inr ⟨by omega, by omega⟩, _, rfl, _, _, rfl, rfl, rfl, some (.int (cf ns (ns.length - 1 - i))), ?_⟩
      rw [pval_last x ns i hi]
      rfl
    · obtain ⟨rfl, v3, rfl⟩ := p
      refine ⟨_, rfl, ?_⟩
      rw [Nat.sub_self]
      exact q
end
section
variable {P : Program} {w : World} {K : PySem.W.Frag} {mg : Str → Option Value} {base : Heap}
/-- a for k, n over enumerate(a list of ints) -/
theorem for_enumL {K : PySem.W.Frag} {a : Addr} {ns : List Int} {k n : Nat} {tb : TS} {D : Ends} {σ : L2.St} {H : Hp} (Pv : Nat → L2.St → Hp → Prop) (h0 : Pv 0 σ H) (hl : ∀ i σ H, i ≤ ns.length → Pv i σ H → SqL K H a (ns.map V.int))
    (hs : ∀ i σ H T, i < ns.length → Pv i σ H → H T = none → tb { D with nx := Pv (i + 1), ct := Pv (i + 1), bk := D.nx } ((σ.set k (some (.int (i : Nat)))).set n (some (.int (cf ns i)))) (upd H T (.tup [.int (i : Nat), .int (cf ns i)]))) (hd : ∀ σ H, Pv ns.length σ H → D.nx σ H) :
    ∃ W : Nat → Nat → L2.St → Hp → Prop, (∃ m, W 0 m σ H) ∧ ∀ i m σ H, W i m σ H →
      ((Ite K a).stop i H ∧ D.nx σ H) ∨ ((Ite K a).go i H ∧ ∃ N : L2.St → Hp → Prop, (∀ σ' H', N σ' H' → ∃ m', m' < m ∧ W (i + 1) m' σ' H') ∧ ∀ x H', (Ite K a).yld i H x H' → (gTup K 2 (gCons (gName k) (gCons (gName n) gNil))) x σ H' fun σ2 H2 => tb { D with nx := N, ct := N, bk := D.nx } σ2 H2) := by
  refine ⟨fun i m σ H => m = ns.length - i ∧ i ≤ ns.length ∧ Pv i σ H, ⟨ns.length, by simp, Nat.zero_le _, h0⟩, ?_⟩
  rintro i m σ H ⟨rfl, hi, p⟩
  have q := hl i σ H hi p
  by_cases hlt : i < ns.length
  · refine .inr ⟨⟨_, _, q, map_at hlt⟩, Pv (i + 1), fun σ' H' p' => ⟨ns.length - (i + 1), by omega, rfl, hlt, p'⟩, fun x H' y => ?_⟩
    obtain ⟨T, x1, rfl, nT, rfl, f⟩ := y
    have e2 := (map_get (f _ q)).2
    subst e2
    exact ⟨T, _, rfl, .inl (.inl upd_same), rfl, _, _, rfl, _, _, rfl, rfl, hs i σ H T hlt p nT⟩
  · have e : i = ns.length := by omega
    subst e
    exact .inl ⟨⟨_, q, by rw [List.length_map]; exact Nat.le_refl _⟩, hd σ H p⟩
theorem rep_one (n : Nat) (x : Int) : (List.replicate n [V.int x]).flatten = (List.replicate n x).map V.int := by
  induction n with
  | zero => rfl
  | succ n ih => rw [List.replicate_succ, List.replicate_succ, List.flatten_cons, ih, List.map_cons]; rfl
theorem cf_rep (n m : Nat) : cf (List.replicate n 0) m = 0 := by
  unfold cf
  rw [List.getD_eq_getElem?_getD, List.getElem?_replicate]
  split <;> rfl
/-- H p = none from a later heap -/
theorem fr {H H' : Hp} (s : Same H H') {p : Addr} (h : H' p = none) : H p = none := s.free h

def sp2 (f : List Int → List Int → List Int) : Sp := fun vs H Q _ => ∃ (a b : Addr) (ns ms : List Int), vs = [.ref a, .ref b] ∧ IL H a ns ∧ IL H b ms ∧ ns.length ≤ 400 ∧ ms.length ≤ 400 ∧ Out H Q (f ns ms)
theorem ok_plus (T : Txt K mg) : FnOk P w K mg base CX0 2 T.plus.a T.plus.fd ["one", "two"] (sp2 padd) := by
  refine T.plus.F.ok sc_plus (fun vs H Q E h => ?_) (fun cdv A outer s H vs Q E hr h => ?_)
  · obtain ⟨a, b, ns, ms, rfl, _⟩ := h
    rfl
  · obtain ⟨a, b, ns, ms, rfl, ha, hb, hla, hlb, q⟩ := h
    refine ⟨_, (pss_cons (ps_set (i := 2) sc_plus.nd rfl (.inl rfl) (pe_callB (call_max2 rfl) (by rfl) T.m_max (by decide +kernel) (pa_cons (pe_callB call_len_seq (by rfl) T.m_len (by decide +kernel) (pa_cons (pv 0) pa_nil)) (pa_cons (pe_callB call_len_seq (by rfl) T.m_len (by decide +kernel) (pa_cons (pv 1) pa_nil)) pa_nil))))
      (pss_cons (ps_set (i := 3) sc_plus.nd rfl (.inl rfl) (pe_op op_rep (pe_lst (pa_cons pe_int pa_nil)) (pv 2)))
      (pss_cons (ps_for PassesOwn.never rfl (pi_enum (by rfl) T.m_enumerate (pa_cons (pv 0) pa_nil)) (pg_tup rfl (pgs_cons (pg_name (i := 4) sc_plus.nd rfl (.inl rfl)) (pgs_cons (pg_name (i := 5) sc_plus.nd rfl (.inl rfl)) pgs_nil)))
        (pss_one (ps_asg (pv 5) (pg_sub (pv 3) (pv 4) set_list))))
      (pss_cons (ps_for PassesOwn.never rfl (pi_enum (by rfl) T.m_enumerate (pa_cons (pv 1) pa_nil)) (pg_tup rfl (pgs_cons (pg_name (i := 4) sc_plus.nd rfl (.inl rfl)) (pgs_cons (pg_name (i := 5) sc_plus.nd rfl (.inl rfl)) pgs_nil)))
        (pss_one (ps_asg (pe_op op_add (pe_ix ix_list (pv 3) (pv 4) (fun _ _ => rfl)) (pv 5)) (pg_sub (pv 3) (pv 4) set_list))))
      (pss_one (ps_ret (pe_call (ok_trimmed T) (hr.mono (by decide)) (by rfl) T.trimmed.g T.trimmed.F.kp T.trimmed.b .nil pass0 (pa_cons (pv 3) pa_nil)))))))), ?_⟩
    refine ⟨.ref a, rfl, a, _, rfl, .inl ha.sq, .ref b, rfl, b, _, rfl, .inl hb.sq, _, _, rfl, ?_⟩
    obtain ⟨L, hL, eL⟩ : ∃ L : Nat, L = max ns.length ms.length ∧ (if ((ms.map V.int).length : Int) > ((ns.map V.int).length : Int) then ((ms.map V.int).length : Int) else ((ns.map V.int).length : Int)) = (L : Int) := by
      refine ⟨_, rfl, ?_⟩
      rw [List.length_map, List.length_map]
      split <;> omega
    rw [eL]
    refine ⟨Nat.le_of_lt (small' (by show 1 < 60000; decide)), fun o ho => ⟨_, rfl, o, _, _, rfl, rfl, upd_same, by omega, by omega, ?_, fun p hp => ?_⟩⟩
    · show 1 * (L : Int).toNat ≤ sizeLine
      exact small (by omega)
    have s1 : Same H (upd (upd H o (.lst [V.int 0])) p (.lst (List.replicate (L : Int).toNat [V.int 0]).flatten)) := (same_upd ho).trans (same_upd hp)
    have hpn : H p = none := (same_upd ho).free hp
    refine ⟨.ref a, rfl, a, _, rfl, (ha.same s1).sq, ?_⟩
    refine for_enumL (ns := ns) (fun i σ H' => Same H H' ∧ ∃ t v4 v5, σ = [some (.ref a), some (.ref b), some (.int L), some (.ref p), v4, v5] ∧ IL H' p t ∧ t.length = L ∧ ∀ m, cf t m = if m < i then cf ns m else 0) ⟨s1, List.replicate L 0, none, none, rfl, ?_, by simp, fun m => by rw [cf_rep]; simp⟩ (fun i σ H' _ p => (ha.same p.1).sq) ?_ ?_
    · show upd _ _ _ _ = _
      rw [upd_same, rep_one]; rfl
    · rintro i σ H' T1 hi ⟨sm, t, v4, v5, rfl, hp', ht, hc⟩ hT
      have hnp : p ≠ T1 := ne_of_none hp' hT
      refine ⟨_, rfl, _, rfl, _, rfl, p, _, _, i, rfl, rfl, il_upd_ne hp' hnp, ix_ok rfl (by rw [List.length_map, ht]; omega), ?_⟩
      rw [len_set]
      refine ⟨same_over (same_over sm ((sm.free hT))) hpn, _, _, _, rfl, il_upd, by rw [List.length_set, ht], fun m => ?_⟩
      rw [cf_set (by omega), hc]
      by_cases e : m = i
      · rw [if_pos e, if_pos (by omega), e]
      · rw [if_neg e]
        by_cases q : m < i
        · rw [if_pos q, if_pos (by omega)]
        · rw [if_neg q, if_neg (by omega)]
    rintro σ H' ⟨sm, t, v4, v5, rfl, hp', ht, hc⟩
    refine ⟨.ref b, rfl, b, _, rfl, (hb.same sm).sq, ?_⟩
    refine for_enumL (ns := ms) (fun i σ H' => Same H H' ∧ ∃ t v4 v5, σ = [some (.ref a), some (.ref b), some (.int L), some (.ref p), v4, v5] ∧ IL H' p t ∧ t.length = L ∧ ∀ m, cf t m = cf ns m + if m < i then cf ms m else 0) ⟨sm, t, v4, v5, rfl, hp', ht, fun m => ?_⟩ (fun i σ H' _ p => (hb.same p.1).sq) ?_ ?_
    · rw [hc]
      split
      · simp
      · rename_i q
        rw [cf_ge (show ns.length ≤ m by omega)]; simp
    · rintro i σ H' T1 hi ⟨sm, t, v4, v5, rfl, hp', ht, hc⟩ hT
      have hnp : p ≠ T1 := ne_of_none hp' hT
      refine ⟨.ref p, rfl, _, rfl, p, _, _, _, rfl, rfl, (il_upd_ne hp' hnp).sq, at_map (by omega), _, rfl, _, _, rfl, rfl, _, rfl, _, rfl, p, _, _, i, rfl, rfl, il_upd_ne hp' hnp, ix_ok rfl (by rw [List.length_map, ht]; omega), ?_⟩
      rw [len_set]
      refine ⟨same_over (same_over sm ((sm.free hT))) hpn, _, _, _, rfl, il_upd, by rw [List.length_set, ht], fun m => ?_⟩
      rw [cf_set (by omega), hc, hc]
      by_cases e : m = i
      · subst e
        rw [if_pos rfl, if_neg (Nat.lt_irrefl _), if_pos (Nat.lt_succ_self _)]; omega
      · rw [if_neg e]
        by_cases q : m < i
        · rw [if_pos q, if_pos (by omega)]
        · rw [if_neg q, if_neg (by omega)]
    rintro σ H' ⟨sm, t, v4, v5, rfl, hp', ht, hc⟩
    refine ⟨.ref p, rfl, p, t, rfl, hp', by omega, fun H2 r s2 hr2 hi2 => q H2 r (sm.trans s2) (sm.free hr2) ?_⟩
    rw [padd_of (t := t) fun m => ?_] at hi2
    · exact hi2
    · rw [hc]
      split
      · rfl
      · rename_i z
        rw [cf_ge (show ms.length ≤ m by omega)]

/-- bounds of the numbers -/
def Bd (ns : List Int) : Prop := ∀ m, (cf ns m).natAbs < 2 ^ 100
theorem wide100 {x y : Int} (hx : x.natAbs < 2 ^ 100) (hy : y.natAbs < 2 ^ 100) : CMulW x y := wide_mul hx hy (by decide) (by decide) (by decide)
def sp2B (f : List Int → List Int → List Int) : Sp := fun vs H Q _ => ∃ (a b : Addr) (ns ms : List Int), vs = [.ref a, .ref b] ∧ IL H a ns ∧ IL H b ms ∧ ns.length ≤ 400 ∧ ms.length ≤ 400 ∧ Bd ns ∧ Bd ms ∧ Out H Q (f ns ms)
theorem ok_times (T : Txt K mg) : FnOk P w K mg base CX0 2 T.times.a T.times.fd ["one", "two"] (sp2B pmul) := by
  refine T.times.F.ok sc_times (fun vs H Q E h => ?_) (fun cdv A outer s H vs Q E hr h => ?_)
  · obtain ⟨a, b, ns, ms, rfl, _⟩ := h
    rfl
  · obtain ⟨a, b, ns, ms, rfl, ha, hb, hla, hlb, ba, bb, q⟩ := h
    refine ⟨_, (pss_cons (ps_set (i := 2) sc_times.nd rfl (.inl rfl) (pe_op op_rep (pe_lst (pa_cons pe_int pa_nil)) (pe_op op_add (pe_callB call_len_seq (by rfl) T.m_len (by decide +kernel) (pa_cons (pv 0) pa_nil)) (pe_callB call_len_seq (by rfl) T.m_len (by decide +kernel) (pa_cons (pv 1) pa_nil)))))
      (pss_cons (ps_for PassesOwn.never rfl (pi_enum (by rfl) T.m_enumerate (pa_cons (pv 0) pa_nil)) (pg_tup rfl (pgs_cons (pg_name (i := 3) sc_times.nd rfl (.inl rfl)) (pgs_cons (pg_name (i := 4) sc_times.nd rfl (.inl rfl)) pgs_nil)))
        (pss_one (ps_if (pt_cmpR op_ne (pv 4) pe_int (nomark _))
          (pss_one (ps_for PassesOwn.never rfl (pi_enum (by rfl) T.m_enumerate (pa_cons (pv 1) pa_nil)) (pg_tup rfl (pgs_cons (pg_name (i := 5) sc_times.nd rfl (.inl rfl)) (pgs_cons (pg_name (i := 6) sc_times.nd rfl (.inl rfl)) pgs_nil)))
            (pss_one (ps_asg (pe_op op_add (pe_ix ix_list (pv 2) (pe_op op_add (pv 3) (pv 5)) (fun _ _ => rfl)) (pe_op op_mulW (pv 4) (pv 6))) (pg_sub (pv 2) (pe_op op_add (pv 3) (pv 5)) set_list)))))
          pss_nil)))
      (pss_one (ps_ret (pe_call (ok_trimmed T) (hr.mono (by decide)) (by rfl) T.trimmed.g T.trimmed.F.kp T.trimmed.b .nil pass0 (pa_cons (pv 2) pa_nil)))))), ?_⟩
    refine ⟨Nat.le_of_lt (small' (by show 1 < 60000; decide)), fun o ho => ?_⟩
    refine ⟨.ref a, rfl, a, _, rfl, .inl (il_ne ha ho).sq, .ref b, rfl, b, _, rfl, .inl (il_ne hb ho).sq, _, _, rfl, rfl, ?_⟩
    obtain ⟨L, hL, eL⟩ : ∃ L : Nat, L = ns.length + ms.length ∧ ((ns.map V.int).length : Int) + ((ms.map V.int).length : Int) = (L : Int) := ⟨_, rfl, by rw [List.length_map, List.length_map]; omega⟩
    refine ⟨o, (L : Int), _, rfl, congrArg V.int eL, upd_same, by omega, by omega, ?_, fun p hp => ?_⟩
    · show 1 * (L : Int).toNat ≤ sizeLine
      exact small (by omega)
    have s1 : Same H (upd (upd H o (.lst [V.int 0])) p (.lst (List.replicate (L : Int).toNat [V.int 0]).flatten)) := (same_upd ho).trans (same_upd hp)
    have hpn : H p = none := (same_upd ho).free hp
    refine ⟨.ref a, rfl, a, _, rfl, (ha.same s1).sq, ?_⟩
    refine for_enumL (ns := ns) (fun i σ H' => Same H H' ∧ ∃ t v3 v4 v5 v6, σ = [some (.ref a), some (.ref b), some (.ref p), v3, v4, v5, v6] ∧ IL H' p t ∧ t.length = L ∧ ∀ m, cf t m = conv ns ms i m) ⟨s1, List.replicate L 0, none, none, none, none, rfl, ?_, by simp, fun m => by rw [cf_rep]; rfl⟩ (fun i σ H' _ p => (ha.same p.1).sq) ?_ ?_
    · show upd _ _ _ _ = _
      rw [upd_same, rep_one]; rfl
    · rintro i σ H' T1 hi ⟨sm, t, v3, v4, v5, v6, rfl, hp', ht, hc⟩ hT
      have hnp : p ≠ T1 := ne_of_none hp' hT
      have smT := same_over (o := .tup [V.int (i : Nat), V.int (cf ns i)]) sm (sm.free hT)
      refine ⟨_, rfl, rfl, _, rfl, ?_⟩
      by_cases h0 : cf ns i = 0
      · rw [h0]
        refine iteF ⟨by rw [← h0]; exact smT, t, _, _, _, _, rfl, il_upd_ne hp' hnp, ht, fun m => ?_⟩
        rw [hc]
        show _ = conv ns ms i m + cf ns i * _
        rw [h0]; simp
      · rw [show (!decide (V.int (cf ns i) = V.int 0)) = true by rw [decide_eq_false (fun z => h0 (V.int.inj z))]; rfl]
        refine iteT ⟨.ref b, rfl, b, _, rfl, (hb.same smT).sq, ?_⟩
        refine for_enumL (ns := ms) (fun j σ H' => Same H H' ∧ ∃ t v5 v6, σ = [some (.ref a), some (.ref b), some (.ref p), some (.int (i : Nat)), some (.int (cf ns i)), v5, v6] ∧ IL H' p t ∧ t.length = L ∧ ∀ m, cf t m = conv ns ms i m + cf ns i * (if i ≤ m ∧ m - i < j then cf ms (m - i) else 0)) ⟨smT, t, v5, v6, rfl, il_upd_ne hp' hnp, ht, fun m => ?_⟩ (fun i σ H' _ p => (hb.same p.1).sq) ?_ ?_
        · rw [hc, if_neg (by omega)]; simp
        · rintro j σ H' T2 hj ⟨sm, t, v5, v6, rfl, hp', ht, hc⟩ hT
          have hnp : p ≠ T2 := ne_of_none hp' hT
          refine ⟨.ref p, rfl, _, rfl, _, rfl, _, _, rfl, rfl, p, _, _, _, rfl, rfl, (il_upd_ne hp' hnp).sq, at_map' (m := i + j) (by omega) (by omega), _, rfl, _, rfl, _, _, rfl, rfl, wide100 (ba i) (bb j), _, _, rfl, rfl, .ref p, rfl, _, rfl, _, rfl, _, _, rfl, rfl, p, _, _, i + j, rfl, rfl, il_upd_ne hp' hnp, ix_ok (by omega) (by rw [List.length_map, ht]; omega), ?_⟩
          rw [len_set]
          refine ⟨same_over (same_over sm ((sm.free hT))) hpn, _, _, _, rfl, il_upd, by rw [List.length_set, ht], fun m => ?_⟩
          rw [cf_set (by omega), hc, hc]
          by_cases e : m = i + j
          · subst e
            rw [if_pos rfl, if_neg (by omega), if_pos (by omega), Nat.add_sub_cancel_left, Int.mul_zero, Int.add_zero]
          · rw [if_neg e]
            by_cases q : i ≤ m ∧ m - i < j
            · rw [if_pos q, if_pos (by omega)]
            · rw [if_neg q, if_neg (by omega)]
        · rintro σ H' ⟨sm, t, v5, v6, rfl, hp', ht, hc⟩
          refine ⟨sm, t, _, _, _, _, rfl, hp', ht, fun m => ?_⟩
          rw [hc]
          show _ = conv ns ms i m + cf ns i * (if i ≤ m then cf ms (m - i) else 0)
          by_cases q : i ≤ m
          · rw [if_pos q]
            by_cases z : m - i < ms.length
            · rw [if_pos ⟨q, z⟩]
            · rw [if_neg (fun y => z y.2), cf_ge (show ms.length ≤ m - i by omega)]
          · rw [if_neg q, if_neg (fun y => q y.1)]
    rintro σ H' ⟨sm, t, v3, v4, v5, v6, rfl, hp', ht, hc⟩
    refine ⟨.ref p, rfl, p, t, rfl, hp', by omega, fun H2 r s2 hr2 hi2 => q H2 r (sm.trans s2) (sm.free hr2) ?_⟩
    rw [pmul_of (t := t) hc] at hi2
    exact hi2
end
section
variable {P : Program} {w : World} {K : PySem.W.Frag} {mg : Str → Option Value} {base : Heap}
theorem wipe1 {σ : L2.St} {i : Nat} {x : Option V} : wipe ((wipe σ [i]).set i x) [i] = wipe σ [i] := by
  show ((σ.set i none).set i x).set i none = σ.set i none
  rw [List.set_set, List.set_set]
/-- [e for x in xs]: each item stands in R to what came of it; nothing is laid within -/
theorem lc_rel {K : PySem.W.Frag} {a : Addr} {xs : List V} {te : TE} {i : Nat} {σ : L2.St} {H1 : Hp} {D : Addr} {Qd : Hp → Prop} (R : Nat → V → Prop) (nD : H1 D = none) (hS : SqL K H1 a xs) (hl : xs.length < sizeLine)
    (ht : ∀ (j : Nat) (x : V) (H' : Hp) (Q : VK), xs[j]? = some x → Same H1 H' → (∀ y, R j y → Q y H') → te ((wipe σ [i]).set i (some x)) H' Q)
    (hd : ∀ H' ys, Same H1 H' → H' D = some (.lst ys) → ys.length = xs.length → (∀ j y, ys[j]? = some y → R j y) → Qd H') :
    ∃ W : Nat → Nat → Hp → Prop, (∃ m, W 0 m (upd H1 D (.lst []))) ∧ ∀ i' m H, W i' m H →
      ((Itl K a).stop i' H ∧ Qd H) ∨ ((Itl K a).go i' H ∧ ∃ Nx : Hp → Prop, (∀ H', Nx H' → ∃ m', m' < m ∧ W (i' + 1) m' H') ∧ ∀ x H', (Itl K a).yld i' H x H' → (gName i) x (wipe σ [i]) H' fun σ2 H2 => wipe σ2 [i] = wipe σ [i] ∧ tYes σ2 H2 fun b H3 =>
        if b = true then te σ2 H3 fun y H4 => ∃ acc, H4 D = some (.lst acc) ∧ acc.length < sizeLine ∧ Nx (upd H4 D (.lst (acc ++ [y]))) else Nx H3) := by
  refine lc_list (xs := xs) (fun j H => Same H1 H ∧ ∃ ys, H D = some (.lst ys) ∧ ys.length = j ∧ ∀ k y, ys[k]? = some y → R k y) ⟨same_upd nD, [], upd_same, rfl, fun k y h => by simp at h⟩ (fun j H _ p => p.1.seq hS) (fun j x H hx p => ?_) (fun H p => ?_)
  · obtain ⟨sm, ys, hy, hn, hr⟩ := p
    refine ⟨wipe1, ?_⟩
    refine ht j x H _ hx sm fun y r => ?_
    have hj := (List.getElem?_eq_some_iff.mp hx).1
    refine ⟨ys, hy, by omega, same_over sm nD, _, upd_same, by simp [hn], fun k z hz => ?_⟩
    rcases Nat.lt_or_ge k ys.length with q | q
    · rw [List.getElem?_append_left q] at hz
      exact hr k z hz
    · have e : k = ys.length := by
        have := (List.getElem?_eq_some_iff.mp hz).1
        simp at this
        omega
      subst e
      rw [List.getElem?_append_right (Nat.le_refl _)] at hz
      simp at hz
      rw [← hz, hn]
      exact r
  · obtain ⟨sm, ys, hy, hn, hr⟩ := p
    exact hd H ys sm hy hn hr
theorem lc_relR {n : Nat} {te : TE} {i : Nat} {σ : L2.St} {H1 : Hp} {D : Addr} {Qd : Hp → Prop} (R : Nat → V → Prop) (nD : H1 D = none) (hl : n < sizeLine)
    (ht : ∀ (j : Nat) (H' : Hp) (Q : VK), j < n → Same H1 H' → (∀ y, R j y → Q y H') → te ((wipe σ [i]).set i (some (.int (j : Nat)))) H' Q)
    (hd : ∀ H' ys, Same H1 H' → H' D = some (.lst ys) → ys.length = n → (∀ j y, ys[j]? = some y → R j y) → Qd H') :
    ∃ W : Nat → Nat → Hp → Prop, (∃ m, W 0 m (upd H1 D (.lst []))) ∧ ∀ i' m H, W i' m H →
      ((Itr 0 n).stop i' H ∧ Qd H) ∨ ((Itr 0 n).go i' H ∧ ∃ Nx : Hp → Prop, (∀ H', Nx H' → ∃ m', m' < m ∧ W (i' + 1) m' H') ∧ ∀ x H', (Itr 0 n).yld i' H x H' → (gName i) x (wipe σ [i]) H' fun σ2 H2 => wipe σ2 [i] = wipe σ [i] ∧ tYes σ2 H2 fun b H3 =>
        if b = true then te σ2 H3 fun y H4 => ∃ acc, H4 D = some (.lst acc) ∧ acc.length < sizeLine ∧ Nx (upd H4 D (.lst (acc ++ [y]))) else Nx H3) := by
  refine lc_range (n := n) (lo := 0) (fun j H => Same H1 H ∧ ∃ ys, H D = some (.lst ys) ∧ ys.length = j ∧ ∀ k y, ys[k]? = some y → R k y) ⟨same_upd nD, [], upd_same, rfl, fun k y h => by simp at h⟩ (fun j H hj p => ?_) (fun H p => ?_)
  · obtain ⟨sm, ys, hy, hn, hr⟩ := p
    rw [Int.zero_add]
    refine ⟨wipe1, ?_⟩
    refine ht j H _ hj sm fun y r => ?_
    refine ⟨ys, hy, by omega, same_over sm nD, _, upd_same, by simp [hn], fun k z hz => ?_⟩
    rcases Nat.lt_or_ge k ys.length with q | q
    · rw [List.getElem?_append_left q] at hz
      exact hr k z hz
    · have e : k = ys.length := by
        have := (List.getElem?_eq_some_iff.mp hz).1
        simp at this
        omega
      subst e
      rw [List.getElem?_append_right (Nat.le_refl _)] at hz
      simp at hz
      rw [← hz, hn]
      exact r
  · obtain ⟨sm, ys, hy, hn, hr⟩ := p
    exact hd H ys sm hy hn hr
/-- a list of known ints -/
theorem ints_of {ys : List V} {n : Nat} (f : Nat → Int) (hn : ys.length = n) (h : ∀ (j : Nat) (y : V), ys[j]? = some y → y = V.int (f j)) : ys = ((List.range n).map f).map V.int := by
  refine List.ext_getElem? fun j => ?_
  rcases Nat.lt_or_ge j n with q | q
  · have e : ys[j]? = some ys[j] := List.getElem?_eq_getElem (by omega)
    rw [e, h j _ e]
    simp [q]
  · rw [List.getElem?_eq_none (by omega), List.getElem?_eq_none (by simpa using q)]
/-- a list of ints with a property -/
theorem ints_ex {ys : List V} {R : Nat → Int → Prop} (h : ∀ (j : Nat) (y : V), ys[j]? = some y → ∃ n, y = V.int n ∧ R j n) : ∃ ns : List Int, ys = ns.map V.int ∧ ∀ j, j < ns.length → R j (cf ns j) := by
  refine ⟨ys.map fun y => match y with | .int n => n | _ => 0, ?_, fun j hj => ?_⟩
  · refine List.ext_getElem? fun j => ?_
    rcases Nat.lt_or_ge j ys.length with q | q
    · have e : ys[j]? = some ys[j] := List.getElem?_eq_getElem q
      obtain ⟨n, e2, _⟩ := h j _ e
      rw [List.getElem?_map, List.getElem?_map, e, e2]; rfl
    · rw [List.getElem?_eq_none q, List.getElem?_eq_none (by simpa using q)]
  · rw [List.length_map] at hj
    have e : ys[j]? = some ys[j] := List.getElem?_eq_getElem hj
    obtain ⟨n, e2, r⟩ := h j _ e
    rw [e2] at e
    rw [cf_some (x := n) (by rw [List.getElem?_map, e]; rfl)]
    exact r
theorem scale_range (c : Int) (ns : List Int) : (List.range ns.length).map (fun j => c * cf ns j) = ns.map (c * ·) := by
  refine List.ext_getElem (by simp) fun j h1 h2 => ?_
  simp only [List.length_map] at h2
  simp only [List.getElem_map, List.getElem_range]
  rw [cf_lt h2]

def pscale (c : Int) (ns : List Int) : List Int := if c = 0 then [] else ns.map (c * ·)
def sp_scaled : Sp := fun vs H Q _ => ∃ (a : Addr) (ns : List Int) (c : Int), vs = [.ref a, .int c] ∧ IL H a ns ∧ ns.length ≤ 400 ∧ Bd ns ∧ c.natAbs < 2 ^ 100 ∧ Out H Q (pscale c ns)
theorem ok_scaled (T : Txt K mg) : FnOk P w K mg base CX0 1 T.scaled.a T.scaled.fd ["one", "number"] sp_scaled := by
  refine T.scaled.F.ok sc_scaled (fun vs H Q E h => ?_) (fun cdv A outer s H vs Q E hr h => ?_)
  · obtain ⟨a, ns, x, rfl, _⟩ := h
    rfl
  · obtain ⟨a, ns, c, rfl, ha, hl, hb, hc, q⟩ := h
    refine ⟨_, (pss_cons (ps_if (pt_cmpR op_eq (pv 1) pe_int (nomark _))
        (pss_one (ps_ret (pe_lst pa_nil)))
        pss_nil)
      (pss_one (ps_ret (pe_lc (own := [("own", 2)]) rfl sc_scaled.nd (pi_list (pv 0)) (blkOk_by (N := ["one", "number", "own"]) (sc := defScope s_scaled) (by decide +kernel)) (fun _ _ _ _ _ => (pg_name (i := 2) sc_scaled.nd rfl (.inl rfl))) (fun _ _ _ _ _ => pts_nil) (fun _ _ _ _ _ => (pe_op op_mulW (pv 1) (pv 2))))))), ?_⟩
    refine ⟨_, rfl, rfl, _, rfl, ?_⟩
    unfold pscale at q
    by_cases h0 : c = 0
    · subst h0
      refine iteT ⟨Nat.zero_le _, fun p hp => q _ p (same_upd hp) hp (il_upd (ns := []))⟩
    · rw [if_neg h0] at q
      rw [decide_eq_false (p := V.int c = V.int 0) (fun z => h0 (V.int.inj z))]
      refine iteF ⟨_, rfl, a, rfl, ⟨_, ha.sq⟩, fun D nD => ?_⟩
      refine lc_rel (a := a) (xs := ns.map V.int) (fun j y => y = .int (c * cf ns j)) nD ha.sq (by rw [List.length_map]; exact small' (by omega)) (fun j x H' Q' hx sm hq => ?_) (fun H' ys sm hy hn hr => ?_)
      · obtain ⟨hj, rfl⟩ := map_get hx
        exact ⟨_, rfl, _, rfl, _, _, rfl, rfl, wide100 hc (hb j), hq _ rfl⟩
      · rw [List.length_map] at hn
        have e := ints_of (fun j => c * cf ns j) hn hr
        rw [scale_range] at e
        exact q H' D sm nD (by show H' D = _; rw [hy, e])
def praise (k : Nat) (ns : List Int) : List Int := if ns = [] then [] else List.replicate k 0 ++ ns
def sp_raised : Sp := fun vs H Q _ => ∃ (a : Addr) (ns : List Int) (k : Nat), vs = [.ref a, .int (k : Nat)] ∧ IL H a ns ∧ ns.length ≤ 400 ∧ k ≤ 100 ∧ Out H Q (praise k ns)
theorem ok_raised (T : Txt K mg) : FnOk P w K mg base CX0 1 T.raised.a T.raised.fd ["one", "k"] sp_raised := by
  refine T.raised.F.ok sc_raised (fun vs H Q E h => ?_) (fun cdv A outer s H vs Q E hr h => ?_)
  · obtain ⟨a, ns, x, rfl, _⟩ := h
    rfl
  · obtain ⟨a, ns, k, rfl, ha, hl, hk, q⟩ := h
    refine ⟨_, (pss_cons (ps_if (pt_cmpR (op_eqD hr.units) (pv 0) (pe_lst pa_nil) (nomark _))
        (pss_one (ps_ret (pe_lst pa_nil)))
        pss_nil)
      (pss_one (ps_ret (pe_op op_cat (pe_op op_rep (pe_lst (pa_cons pe_int pa_nil)) (pv 1)) (pv 0))))), ?_⟩
    refine ⟨_, rfl, Nat.zero_le _, fun o ho => ⟨_, _, (il_ne ha ho).dp, (il_upd (ns := [])).dp, shaped_dI _, shaped_dI _, _, rfl, ?_⟩⟩
    rw [eqv_dI]
    have so := same_upd (o := .lst []) ho
    unfold praise at q
    by_cases e : ns = []
    · subst e
      rw [if_pos rfl] at q
      exact iteT ⟨Nat.zero_le _, fun p hp => q _ p (so.trans (same_upd hp)) (so.free hp) (il_upd (ns := []))⟩
    · rw [if_neg e] at q
      rw [decide_eq_false e]
      refine iteF ⟨Nat.le_of_lt (small' (by show 1 < 60000; decide)), fun z hz => ⟨_, rfl, z, _, _, rfl, rfl, upd_same, by omega, by omega, ?_, fun y hy => ?_⟩⟩
      · show 1 * (k : Int).toNat ≤ sizeLine
        exact small (by omega)
      have s1 := so.trans (same_upd (o := .lst [V.int 0]) hz)
      have s2 := s1.trans (same_upd (o := .lst (List.replicate (k : Int).toNat [V.int 0]).flatten) hy)
      refine ⟨_, rfl, y, a, _, _, rfl, rfl, upd_same, ha.same s2, ?_, fun p hp => ?_⟩
      · rw [rep_one, List.length_map, List.length_map, List.length_replicate]
        exact small (by omega)
      · refine q _ p (s2.trans (same_upd hp)) (s2.free hp) ?_
        show upd _ _ _ _ = _
        rw [upd_same, rep_one, ← List.map_append]; rfl
end
section
variable {P : Program} {w : World} {K : PySem.W.Frag} {mg : Str → Option Value} {base : Heap}
structure DR (ds : List Int) : Prop where
  lo : ∀ m, 0 ≤ cf ds m
  hi : ∀ m, cf ds m < 65536
  len : ds.length ≤ 4000
structure DR0 (ds : List Int) : Prop where
  lo : ∀ m, 0 ≤ cf ds m
  hi : ∀ m, cf ds m < 65536
theorem cf_app (ds : List Int) (x : Int) (m : Nat) : cf (ds ++ [x]) m = if m < ds.length then cf ds m else if m = ds.length then x else 0 := by
  unfold cf
  rw [List.getD_eq_getElem?_getD, List.getD_eq_getElem?_getD]
  by_cases h : m < ds.length
  · rw [if_pos h, List.getElem?_append_left h]
  · rw [if_neg h, List.getElem?_append_right (by omega)]
    by_cases e : m = ds.length
    · subst e; simp
    · rw [if_neg e, List.getElem?_eq_none (by simp; omega)]; rfl
theorem DR0.app {ds : List Int} (h : DR0 ds) {x : Int} (h0 : 0 ≤ x) (h1 : x < 65536) : DR0 (ds ++ [x]) :=
  ⟨fun m => by rw [cf_app]; split; exact h.lo m; split <;> omega, fun m => by rw [cf_app]; split; exact h.hi m; split <;> omega⟩
theorem DR0.nil : DR0 [] := ⟨fun m => by show (0 : Int) ≤ 0; omega, fun m => by show (0 : Int) < 65536; omega⟩
theorem app_ints {ds : List Int} {x : Int} : ds.map V.int ++ [V.int x] = (ds ++ [x]).map V.int := by rw [List.map_append]; rfl

def sp_law_draws (K : PySem.W.Frag) : Sp := fun vs H Q _ => ∃ (a : Addr) (ns : List Int), vs = [.ref a] ∧ SqL K H a (ns.map V.int) ∧ ns.length ≤ 63 ∧ ∀ H' p ds, Same H H' → H p = none → IL H' p ds → DR ds → Q (.ref p) H'
theorem ok_law_draws (T : Txt K mg) : FnOk P w K mg base CX0 1 T.law_draws.a T.law_draws.fd ["script"] (sp_law_draws K) := by
  refine T.law_draws.F.ok sc_law_draws (fun vs H Q E h => ?_) (fun cdv A outer s H vs Q E hr h => ?_)
  · obtain ⟨a, ns, rfl, _⟩ := h
    rfl
  · obtain ⟨a, ns, rfl, ha, hl, q⟩ := h
    refine ⟨_, (pss_cons (ps_set (i := 1) sc_law_draws.nd rfl (.inl rfl) (pe_lst pa_nil))
      (pss_cons (ps_for PassesOwn.never rfl (pi_range1 (by rfl) T.m_range (pa_cons (pe_callB (call_min2 rfl) (by rfl) T.m_min (by decide +kernel) (pa_cons pe_int (pa_cons (pe_callB call_len_seq (by rfl) T.m_len (by decide +kernel) (pa_cons (pv 0) pa_nil)) pa_nil))) pa_nil)) (pg_name (i := 2) sc_law_draws.nd rfl (.inl rfl))
        (pss_cons (ps_set (i := 3) sc_law_draws.nd rfl (.inl rfl) (pe_callB call_abs (by rfl) T.m_abs (by decide +kernel) (pa_cons (pe_ix ix_list (pv 0) (pv 2) (fun _ _ => rfl)) pa_nil)))
        (pss_one (ps_if (pt_cmpR op_ge (pv 3) (pe_op op_pow pe_int pe_int) (nomark _))
          (pss_one (ps_for PassesOwn.never rfl (pi_range1 (by rfl) T.m_range (pa_cons pe_int pa_nil)) (pg_name (i := 4) sc_law_draws.nd rfl (.inl rfl))
            (pss_one (ps_if (pt_cmpR op_gt (pv 3) pe_int (nomark _))
              (pss_cons (ps_expr (pe_bm PySem.F.plainAttrs_list PySem.F.slot_list_append PySem.F.type_list_append mt_append (pv 1) (pa_cons (pe_op op_mod (pe_callTy call_int1 (by rfl) T.m_int (by decide +kernel) (pa_cons (pv 3) pa_nil)) pe_int) pa_nil)))
              (pss_one (ps_set (i := 3) sc_law_draws.nd rfl (.inl rfl) (pe_op op_fdiv (pv 3) pe_int))))
              pss_nil))))
          (pss_cons (ps_set (i := 5) sc_law_draws.nd rfl (.inl rfl) (pe_op op_mod (pe_callTy call_int1 (by rfl) T.m_int (by decide +kernel) (pa_cons (pe_op op_add (pe_op op_mul (pv 3) pe_int) (pe_op op_mul (pe_op op_add (pv 2) pe_int) pe_int)) pa_nil)) pe_int))
          (pss_cons (ps_set (i := 5) sc_law_draws.nd rfl (.inl rfl) (pe_op op_mod (pe_callTy call_int1 (by rfl) T.m_int (by decide +kernel) (pa_cons (pe_op op_add (pe_op op_add (pe_op op_mul (pv 5) pe_int) (pe_op op_mul pe_int (pv 2))) pe_int) pa_nil)) pe_int))
          (pss_cons (ps_expr (pe_bm PySem.F.plainAttrs_list PySem.F.slot_list_append PySem.F.type_list_append mt_append (pv 1) (pa_cons (pe_op op_mod (pe_callTy call_int1 (by rfl) T.m_int (by decide +kernel) (pa_cons (pv 5) pa_nil)) pe_int) pa_nil)))
          (pss_one (ps_expr (pe_bm PySem.F.plainAttrs_list PySem.F.slot_list_append PySem.F.type_list_append mt_append (pv 1) (pa_cons (pe_op op_mod (pe_callTy call_int1 (by rfl) T.m_int (by decide +kernel) (pa_cons (pe_op op_fdiv (pv 5) pe_int) pa_nil)) pe_int) pa_nil)))))))))))
      (pss_one (ps_ret (pv 1))))), ?_⟩
    refine ⟨Nat.zero_le _, fun p hp => ?_⟩
    have s0 := same_upd (o := .lst []) hp
    obtain ⟨L, hL, eL⟩ : ∃ L : Nat, L ≤ ns.length ∧ L ≤ 63 ∧ (if ((ns.map V.int).length : Int) < 63 then ((ns.map V.int).length : Int) else 63) = (L : Int) := by
      refine ⟨min ns.length 63, Nat.min_le_left _ _, Nat.min_le_right _ _, ?_⟩
      rw [List.length_map]
      split <;> omega
    refine ⟨.ref a, rfl, a, _, rfl, .inl (s0.seq ha), 63, _, rfl, (L : Int), congrArg (fun z => [V.int z]) eL.2, by omega, by omega, ?_⟩
    refine for_range (n := (L : Int).toNat) (lo := 0) (fun i σ H' => Same H H' ∧ ∃ ds v2 v3 v4 v5, σ = [some (.ref a), some (.ref p), v2, v3, v4, v5] ∧ IL H' p ds ∧ DR0 ds ∧ ds.length ≤ 60 * i) ⟨s0, [], none, none, none, none, rfl, upd_same, DR0.nil, Nat.zero_le _⟩ (fun i σ H' hi hP => ?_) (fun σ H' hP => ?_)
    · obtain ⟨sm, ds, v2, v3, v4, v5, rfl, hd, hr0, hn⟩ := hP
      have hi' : i < ns.length := by omega
      refine ⟨.ref a, rfl, _, rfl, a, _, _, _, rfl, rfl, sm.seq ha, at_map' (m := i) (by omega) hi', _, rfl, ?_⟩
      obtain ⟨r, hr1, er⟩ : ∃ r : Int, 0 ≤ r ∧ (if cf ns i < 0 then -cf ns i else cf ns i) = r := ⟨_, by split <;> omega, rfl⟩
      rw [er]
      refine ⟨_, rfl, _, _, rfl, rfl, ⟨by decide, by decide, by decide⟩, _, _, rfl, rfl, _, rfl, ?_⟩
      refine ite2 (fun _ => ?_) (fun hlt => ?_)
      · refine ⟨60, rfl, by decide, by decide, ?_⟩
        refine for_range (n := 60) (lo := 0) (fun j σ H' => Same H H' ∧ ∃ ds v2 v4 v5 r, σ = [some (.ref a), some (.ref p), v2, some (.int r), v4, v5] ∧ 0 ≤ r ∧ IL H' p ds ∧ DR0 ds ∧ ds.length ≤ 60 * i + j) ⟨sm, ds, _, _, _, r, rfl, hr1, hd, hr0, hn⟩ (fun j σ H' hj hP => ?_) (fun σ H' hP => ?_)
        · obtain ⟨sm, ds, v2, v4, v5, r, rfl, hr1, hd, hr0, hn⟩ := hP
          refine ⟨_, rfl, _, _, rfl, rfl, _, rfl, ?_⟩
          refine ite2 (fun _ => ?_) (fun _ => ⟨sm, ds, _, _, _, r, rfl, hr1, hd, hr0, by omega⟩)
          refine ⟨.ref p, rfl, .inl ⟨rfl, _, hd.sq⟩, _, rfl, .inl ⟨_, rfl, _, _, rfl, rfl, (by show (0 : Int) < _; decide), p, _, _, rfl, rfl, hd, by rw [List.length_map]; exact small' (by omega), ?_⟩⟩
          rw [app_ints]
          refine ⟨_, rfl, _, _, rfl, rfl, ⟨by decide, by decide⟩, ?_⟩
          exact ⟨same_over sm hp, _, _, _, _, _, rfl, by omega, il_upd, hr0.app (by omega) (by omega), by rw [List.length_append]; show _ + 1 ≤ _; omega⟩
        · obtain ⟨sm, ds, v2, v4, v5, r, rfl, hr1, hd, hr0, hn⟩ := hP
          exact ⟨sm, ds, _, _, _, _, rfl, hd, hr0, by omega⟩
      · have hr2 : r < 10 ^ 18 := by
          have e : ((10 : Int) ^ (18 : Int).toNat) = 10 ^ 18 := rfl
          rw [e] at hlt
          have := of_decide_eq_false (Bool.eq_false_iff.mpr hlt)
          omega
        refine ⟨_, rfl, _, _, rfl, rfl, .inl ⟨by omega, by omega⟩, _, rfl, _, _, rfl, rfl, _, _, rfl, rfl, .inr ⟨by decide, by decide⟩, _, _, rfl, rfl, .inl ⟨_, rfl, _, _, rfl, rfl, (by show (0 : Int) < _; decide), ?_⟩⟩
        refine ⟨_, rfl, _, _, rfl, rfl, .inr ⟨by decide, by decide⟩, _, rfl, _, _, rfl, rfl, .inl ⟨by decide, by decide⟩, _, _, rfl, rfl, _, _, rfl, rfl, .inl ⟨_, rfl, _, _, rfl, rfl, (by show (0 : Int) < _; decide), ?_⟩⟩
        refine ⟨.ref p, rfl, .inl ⟨rfl, _, hd.sq⟩, _, rfl, .inl ⟨_, rfl, _, _, rfl, rfl, (by show (0 : Int) < _; decide), p, _, _, rfl, rfl, hd, by rw [List.length_map]; exact small' (by omega), ?_⟩⟩
        rw [app_ints]
        refine ⟨.ref p, rfl, .inl ⟨rfl, _, il_upd.sq⟩, _, rfl, _, _, rfl, rfl, ⟨by decide, by decide⟩, .inl ⟨_, rfl, _, _, rfl, rfl, (by show (0 : Int) < _; decide), p, _, _, rfl, rfl, il_upd, by rw [List.length_map, List.length_append]; exact small' (by show _ + 1 < _; omega), ?_⟩⟩
        rw [app_ints]
        exact ⟨same_over (same_over sm hp) hp, _, _, _, _, _, rfl, il_upd, (hr0.app (by omega) (by omega)).app (by omega) (by omega), by rw [List.length_append, List.length_append]; show _ + 1 + 1 ≤ _; omega⟩
    · obtain ⟨sm, ds, v2, v3, v4, v5, rfl, hd, hr0, hn⟩ := hP
      exact ⟨_, rfl, q H' p ds sm hp hd ⟨hr0.lo, hr0.hi, by omega⟩⟩
end
section
variable {P : Program} {w : World} {K : PySem.W.Frag} {mg : Str → Option Value} {base : Heap}
def sp_law_at : Sp := fun vs H Q _ => ∃ (a : Addr) (ds : List Int) (k many : Int), vs = [.ref a, .int k, .int many] ∧ IL H a ds ∧ 0 ≤ k ∧ 0 < many ∧ ∀ r, 0 ≤ r → r < many → Q (.int r) H
theorem ok_law_at (T : Txt K mg) : FnOk P w K mg base CX0 1 T.law_at.a T.law_at.fd ["draws", "k", "many"] sp_law_at := by
  refine T.law_at.F.ok sc_law_at (fun vs H Q E h => ?_) (fun cdv A outer s H vs Q E hr h => ?_)
  · obtain ⟨a, ds, k, m, rfl, _⟩ := h
    rfl
  · obtain ⟨a, ds, k, m, rfl, ha, hk, hm, q⟩ := h
    refine ⟨_, (pss_cons (ps_if (pt_cmpR op_lt (pv 1) (pe_callB call_len_seq (by rfl) T.m_len (by decide +kernel) (pa_cons (pv 0) pa_nil)) (nomark _))
        (pss_one (ps_ret (pe_op op_mod (pe_callTy call_int1 (by rfl) T.m_int (by decide +kernel) (pa_cons (pe_ix ix_list (pv 0) (pv 1) (fun _ _ => rfl)) pa_nil)) (pv 2))))
        pss_nil)
      (pss_one (ps_ret pe_int))), ?_⟩
    refine ⟨_, rfl, .ref a, rfl, a, _, rfl, .inl ha.sq, _, _, rfl, rfl, _, rfl, ?_⟩
    rw [List.length_map]
    refine ite2 (fun h => ?_) (fun _ => ?_)
    · have hlt := of_decide_eq_true h
      refine ⟨.ref a, rfl, _, rfl, a, _, _, _, rfl, rfl, ha.sq, at_map' (m := k.toNat) (by omega) (by omega), .inl ⟨_, rfl, _, rfl, _, _, rfl, rfl, hm, ?_⟩⟩
      exact q _ (Int.emod_nonneg _ (by omega)) (Int.emod_lt_of_pos _ hm)
    · exact q 0 (Int.le_refl _) hm

def sp_law_is_integer : Sp := fun vs H Q _ => ∃ (n : Int), vs = [.int n] ∧ Q (.bl true) H
theorem ok_law_is_integer (T : Txt K mg) : FnOk P w K mg base CX0 1 T.law_is_integer.a T.law_is_integer.fd ["actual"] sp_law_is_integer := by
  refine T.law_is_integer.F.ok sc_law_is_integer (fun vs H Q E h => ?_) (fun cdv A outer s H vs Q E hr h => ?_)
  · obtain ⟨n, rfl, _⟩ := h
    rfl
  · obtain ⟨n, rfl, q⟩ := h
    refine ⟨_, (pss_one (ps_ret (pe_and (pe_callB call_isi (by rfl) T.m_isinstance (by decide +kernel) (pa_cons (pv 0) (pa_cons (pe_bltn (v := .ty "int") (by rfl) T.m_int (by decide +kernel) rfl) pa_nil))) (pe_one (pe_not (pe_callB call_isi (by rfl) T.m_isinstance (by decide +kernel) (pa_cons (pv 0) (pa_cons (pe_bltn (v := .ty "bool") (by rfl) T.m_bool (by decide +kernel) rfl) pa_nil)))))))), ?_⟩
    refine ⟨_, rfl, _, _, _, _, true, rfl, .ty _, .base (.int n), kit_ty (by decide +kernel), true, rfl, iteT ?_⟩
    exact ⟨_, rfl, _, _, _, _, false, rfl, .ty _, .base (.int n), kit_ty (by decide +kernel), false, rfl, q⟩

theorem ten30 : ((10 : Int) ^ (30 : Int).toNat) = 10 ^ 30 := rfl
theorem side_mul {s x : Int} (hs : s.natAbs ≤ 1) (hx : x.natAbs < 2 ^ 100) : (s * x).natAbs < 2 ^ 100 := by
  rw [Int.natAbs_mul]
  have : s.natAbs * x.natAbs ≤ 1 * x.natAbs := Nat.mul_le_mul_right _ hs
  omega
def sp_law_number : Sp := fun vs H Q _ => ∃ (a : Addr) (ds : List Int) (k : Int), vs = [.ref a, .int k] ∧ IL H a ds ∧ 0 ≤ k ∧ ∀ r : Int, r.natAbs < 2 ^ 100 → Q (.int r) H
theorem ok_law_number (T : Txt K mg) : FnOk P w K mg base CX0 2 T.law_number.a T.law_number.fd ["draws", "k"] sp_law_number := by
  refine T.law_number.F.ok sc_law_number (fun vs H Q E h => ?_) (fun cdv A outer s H vs Q E hr h => ?_)
  · obtain ⟨a, ds, k, rfl, _⟩ := h
    rfl
  · obtain ⟨a, ds, k, rfl, ha, hk, q⟩ := h
    refine ⟨_, (pss_cons (ps_set (i := 2) sc_law_number.nd rfl (.inl rfl) (pe_call (ok_law_at T) (hr.mono (by decide)) (by rfl) T.law_at.g T.law_at.F.kp T.law_at.b .nil pass0 (pa_cons (pv 0) (pa_cons (pv 1) (pa_cons pe_int pa_nil)))))
      (pss_cons (ps_set (i := 3) sc_law_number.nd rfl (.inl rfl) (pe_call (ok_law_at T) (hr.mono (by decide)) (by rfl) T.law_at.g T.law_at.F.kp T.law_at.b .nil pass0 (pa_cons (pv 0) (pa_cons (pe_op op_add (pv 1) pe_int) (pa_cons pe_int pa_nil)))))
      (pss_cons (ps_set (i := 4) sc_law_number.nd rfl (.inl rfl) (pe_op op_sub pe_int (pe_op op_mul pe_int (pe_op op_mod (pe_callTy call_int1 (by rfl) T.m_int (by decide +kernel) (pa_cons (pv 3) pa_nil)) pe_int))))
      (pss_cons (ps_if (pt_cmpR op_lt (pv 2) pe_int (nomark _))
        (pss_one (ps_ret (pe_op op_sub (pe_op op_mod (pe_callTy call_int1 (by rfl) T.m_int (by decide +kernel) (pa_cons (pe_op op_fdiv (pv 3) pe_int) pa_nil)) pe_int) pe_int)))
        pss_nil)
      (pss_cons (ps_if (pt_cmpR op_lt (pv 2) pe_int (nomark _))
        (pss_one (ps_ret (pe_op op_sub (pe_op op_mod (pe_callTy call_int1 (by rfl) T.m_int (by decide +kernel) (pa_cons (pe_op op_fdiv (pv 3) pe_int) pa_nil)) pe_int) pe_int)))
        pss_nil)
      (pss_cons (ps_if (pt_cmpR op_eq (pv 2) pe_int (nomark _))
        (pss_one (ps_ret (pe_op op_mul (pv 4) (pe_op op_pow pe_int pe_int))))
        pss_nil)
      (pss_one (ps_ret (pe_op op_mul (pv 4) (pe_op op_mod (pe_callTy call_int1 (by rfl) T.m_int (by decide +kernel) (pa_cons (pe_op op_pow (pe_callTy call_int1 (by rfl) T.m_int (by decide +kernel) (pa_cons (pe_op op_add (pe_op op_mul (pv 3) pe_int) pe_int) pa_nil)) pe_int) pa_nil)) (pe_op op_pow pe_int pe_int))))))))))), ?_⟩
    refine ⟨.ref a, rfl, _, rfl, a, ds, k, 8, rfl, ha, hk, by decide, fun kind hk0 hk1 => ?_⟩
    refine ⟨.ref a, rfl, _, rfl, _, _, rfl, rfl, a, ds, _, 65536, rfl, ha, by omega, by decide, fun cell hc0 hc1 => ?_⟩
    refine ⟨_, rfl, .inl ⟨_, rfl, _, _, rfl, rfl, (by show (0 : Int) < _; decide), _, _, rfl, rfl, .inl ⟨by decide, by decide⟩, _, _, rfl, rfl, ?_⟩⟩
    obtain ⟨sd, hsd, esd⟩ : ∃ sd : Int, sd.natAbs ≤ 1 ∧ 1 - 2 * (cell % 2) = sd := ⟨_, by omega, rfl⟩
    refine ⟨_, rfl, _, _, rfl, rfl, _, rfl, ite2 (fun _ => ?_) (fun _ => ?_)⟩
    · exact ⟨_, rfl, _, _, rfl, rfl, ⟨by decide, by decide⟩, .inl ⟨_, rfl, _, _, rfl, rfl, (by show (0 : Int) < _; decide), _, _, rfl, rfl, q _ (by omega)⟩⟩
    refine ⟨_, rfl, _, _, rfl, rfl, _, rfl, ite2 (fun _ => ?_) (fun _ => ?_)⟩
    · exact ⟨_, rfl, _, _, rfl, rfl, ⟨by decide, by decide⟩, .inl ⟨_, rfl, _, _, rfl, rfl, (by show (0 : Int) < _; decide), _, _, rfl, rfl, q _ (by omega)⟩⟩
    refine ⟨_, rfl, rfl, _, rfl, ite2 (fun _ => ?_) (fun _ => ?_)⟩
    · refine ⟨.int sd, congrArg (fun z => some (some (V.int z))) esd, _, _, rfl, rfl, ⟨by decide, by decide, by decide⟩, _, _, rfl, rfl, .inl ⟨by omega, by omega⟩, q _ (side_mul hsd (by decide))⟩
    · refine ⟨.int sd, congrArg (fun z => some (some (V.int z))) esd, _, rfl, _, _, rfl, rfl, .inr ⟨by decide, by decide⟩, _, _, rfl, rfl, .inl ⟨_, rfl, _, _, rfl, rfl, ⟨by decide, by decide, by omega⟩, .inl ⟨_, rfl, _, _, rfl, rfl, ⟨by decide, by decide, by decide⟩, _, _, rfl, rfl, (by show (0 : Int) < (10 : Int) ^ (30 : Int).toNat; decide), _, _, rfl, rfl, .inl ⟨by omega, by omega⟩, q _ (side_mul hsd ?_)⟩⟩⟩
      rw [ten30]
      generalize ((cell * 65537 + 12345) ^ (6 : Int).toNat) = z
      omega

/-- the place behind the last number that is not 0, so far -/
def LastOk (ns : List Int) (i L : Nat) : Prop := L ≤ i ∧ (∀ m, L ≤ m → m < i → cf ns m = 0) ∧ (L = 0 ∨ cf ns (L - 1) ≠ 0)
theorem LastOk.zero (ns : List Int) : LastOk ns 0 0 := ⟨Nat.le_refl _, fun m _ h => absurd h (Nat.not_lt_zero _), .inl rfl⟩
theorem LastOk.keep {ns : List Int} {i L : Nat} (h : LastOk ns i L) (h0 : cf ns i = 0) : LastOk ns (i + 1) L := ⟨by have := h.1; omega, fun m h1 h2 => by
  by_cases e : m = i
  · rw [e]; exact h0
  · exact h.2.1 m h1 (by omega), h.2.2⟩
theorem LastOk.new {ns : List Int} {i L : Nat} (h0 : cf ns i ≠ 0) : LastOk ns (i + 1) (i + 1) := ⟨Nat.le_refl _, fun m h1 h2 => by omega, .inr h0⟩
theorem LastOk.take {ns : List Int} {L : Nat} (h : LastOk ns ns.length L) : ns.take L = trim ns := take_trim h.1 (fun m hm => by
  rcases Nat.lt_or_ge m ns.length with q | q
  · exact h.2.1 m hm q
  · exact cf_ge q) h.2.2
theorem bd_trim {ns : List Int} (h : Bd ns) : Bd (trim ns) := fun m => by rw [cf_trim]; exact h m
theorem bd_of {ns : List Int} (h : ∀ j, j < ns.length → (cf ns j).natAbs < 2 ^ 100) : Bd ns := fun m => by
  rcases Nat.lt_or_ge m ns.length with q | q
  · exact h m q
  · rw [cf_ge q]; decide
/-- a polynomial is handed back -/
def OutP (H : Hp) (Q : VK) : Prop := ∀ H' p ns, Same H H' → H p = none → IL H' p ns → Can ns → Bd ns → ns.length ≤ 41 → Q (.ref p) H'
def sp_law_poly : Sp := fun vs H Q _ => ∃ (a : Addr) (ds : List Int) (k : Int), vs = [.ref a, .int k, .int 5] ∧ IL H a ds ∧ 0 ≤ k ∧ OutP H Q
theorem ok_law_poly (T : Txt K mg) : FnOk P w K mg base CX0 3 T.law_poly.a T.law_poly.fd ["draws", "k", "most"] sp_law_poly := by
  refine T.law_poly.F.ok sc_law_poly (fun vs H Q E h => ?_) (fun cdv A outer s H vs Q E hr h => ?_)
  · obtain ⟨a, ds, k, rfl, _⟩ := h
    rfl
  · obtain ⟨a, ds, k, rfl, ha, hk, q⟩ := h
    refine ⟨_, (pss_cons (ps_setLc (i := 4) (own := [("m", 3)]) rfl sc_law_poly.nd rfl rfl (sw_true rfl rfl rfl (by decide +kernel)) (pi_range1 (by rfl) T.m_range (pa_cons (pe_call (ok_law_at T) (hr.mono (by decide)) (by rfl) T.law_at.g T.law_at.F.kp T.law_at.b .nil pass0 (pa_cons (pv 0) (pa_cons (pv 1) (pa_cons (pe_op op_add (pv 2) pe_int) pa_nil)))) pa_nil)) (blkOk_by (N := ["draws", "k", "most", "m", "numbers", "last"]) (sc := defScope s_law_poly) (by decide +kernel)) (fun _ _ _ _ _ => (pg_name (i := 3) sc_law_poly.nd rfl (.inl rfl))) (fun _ _ _ _ _ => pts_nil) (fun _ _ _ _ _ => (pe_call (ok_law_number T) (hr.mono (by decide)) (by rfl) T.law_number.g T.law_number.F.kp T.law_number.b .nil pass0 (pa_cons (pv 0) (pa_cons (pe_op op_add (pe_op op_add (pv 1) pe_int) (pe_op op_mul pe_int (pv 3))) pa_nil)))))
      (pss_cons (ps_set (i := 5) sc_law_poly.nd rfl (.inl rfl) pe_int)
      (pss_cons (ps_for PassesOwn.never rfl (pi_range1 (by rfl) T.m_range (pa_cons (pe_callB call_len_seq (by rfl) T.m_len (by decide +kernel) (pa_cons (pv 4) pa_nil)) pa_nil)) (pg_name (i := 3) sc_law_poly.nd rfl (.inl rfl))
        (pss_one (ps_if (pt_cmpR op_ne (pe_ix ix_list (pv 4) (pv 3) (fun _ _ => rfl)) pe_int (nomark _))
          (pss_one (ps_set (i := 5) sc_law_poly.nd rfl (.inl rfl) (pe_op op_add (pv 3) pe_int)))
          pss_nil)))
      (pss_one (ps_ret (pe_slice sl_list (pv 4) po_none (po_some (pv 5)))))))), ?_⟩
    refine ⟨.ref a, rfl, _, rfl, _, rfl, _, _, rfl, rfl, a, ds, k, _, rfl, ha, hk, by decide, fun n hn0 hn1 => ?_⟩
    refine ⟨n, rfl, by omega, by omega, fun D nD => ?_⟩
    refine lc_relR (n := n.toNat) (fun j y => ∃ x, y = .int x ∧ x.natAbs < 2 ^ 100) nD (small' (by omega)) (fun j H' Q' hj sm hq => ?_) (fun H' ys sm hy hn hr => ?_)
    · exact ⟨.ref a, rfl, _, rfl, _, _, rfl, rfl, _, rfl, _, _, rfl, rfl, .inl ⟨by decide, by decide⟩, _, _, rfl, rfl, a, ds, _, rfl, ha.same sm, by omega, fun r hr => hq _ ⟨r, rfl, hr⟩⟩
    obtain ⟨ns, rfl, hb⟩ := ints_ex (R := fun _ x => x.natAbs < 2 ^ 100) hr
    rw [List.length_map] at hn
    have hil : IL H' D ns := hy
    refine ⟨.ref D, rfl, D, _, rfl, .inl hil.sq, _, rfl, by rw [List.length_map]; omega, by rw [List.length_map]; omega, ?_⟩
    rw [List.length_map]
    refine for_range (n := (ns.length : Int).toNat) (lo := 0) (fun i σ H2 => H2 = H' ∧ ∃ v3 L, σ = [some (.ref a), some (.int k), some (.int 5), v3, some (.ref D), some (.int (L : Nat))] ∧ LastOk ns i L) ⟨rfl, none, 0, rfl, .zero ns⟩ (fun i σ H2 hi hP => ?_) (fun σ H2 hP => ?_)
    · obtain ⟨rfl, v3, L, rfl, hL⟩ := hP
      refine ⟨.ref D, rfl, _, rfl, D, _, _, _, rfl, rfl, hil.sq, at_map' (m := i) (by omega) (by omega), rfl, _, rfl, ?_⟩
      by_cases h0 : cf ns i = 0
      · rw [h0]
        exact iteF ⟨rfl, _, L, rfl, hL.keep h0⟩
      · rw [show (!decide (V.int (cf ns i) = V.int 0)) = true by rw [decide_eq_false (fun z => h0 (V.int.inj z))]; rfl]
        refine iteT ⟨_, rfl, _, _, rfl, rfl, rfl, some (.int (0 + (i : Int))), i + 1, ?_, .new (L := L) h0⟩
        show [some (V.ref a), some (V.int k), some (V.int 5), some (V.int (0 + (i : Int))), some (V.ref D), some (V.int (0 + (i : Int) + 1))] = _
        rw [show (0 + (i : Int) + 1) = ((i + 1 : Nat) : Int) by omega]
    · obtain ⟨rfl, v3, L, rfl, hL⟩ := hP
      rw [Int.toNat_natCast] at hL
      refine ⟨.ref D, rfl, _, rfl, _, rfl, D, _, rfl, hil.sq, fun p hp => ?_⟩
      rw [cut_to hL.1, hL.take]
      exact q _ p (trim ns) (sm.trans (same_upd hp)) (sm.free hp) il_upd (can_trim ns) (bd_trim (bd_of hb)) (by have := trim_len ns; omega)
end
section
variable {P : Program} {w : World} {K : PySem.W.Frag} {mg : Str → Option Value} {base : Heap}
theorem bls_of {ys : List V} {n : Nat} (hn : ys.length = n) (h : ∀ (j : Nat) (y : V), ys[j]? = some y → y = V.bl true) : ys = (List.replicate n true).map V.bl := by
  refine List.ext_getElem? fun j => ?_
  rcases Nat.lt_or_ge j n with q | q
  · have e : ys[j]? = some ys[j] := List.getElem?_eq_getElem (by omega)
    rw [e, h j _ e]
    simp [q]
  · rw [List.getElem?_eq_none (by omega), List.getElem?_eq_none (by simpa using q)]
theorem all_rep (n : Nat) : (List.replicate n true).all id = true := by
  simp
def sp_law_is_poly : Sp := fun vs H Q _ => ∃ (a : Addr) (ns : List Int), vs = [.ref a] ∧ IL H a ns ∧ ns.length ≤ 1000 ∧ ∀ H', Same H H' → Q (.bl (decide (Can ns))) H'
theorem ok_law_is_poly (T : Txt K mg) : FnOk P w K mg base CX0 2 T.law_is_poly.a T.law_is_poly.fd ["actual"] sp_law_is_poly := by
  refine T.law_is_poly.F.ok sc_law_is_poly (fun vs H Q E h => ?_) (fun cdv A outer s H vs Q E hr h => ?_)
  · obtain ⟨a, ns, rfl, _⟩ := h
    rfl
  · obtain ⟨a, ns, rfl, ha, hl, q⟩ := h
    refine ⟨_, (pss_cons (ps_if (PW.pt (pw_or (pt_not (pt_val (pe_callB call_isi (by rfl) T.m_isinstance (by decide +kernel) (pa_cons (pv 0) (pa_cons (pe_bltn (v := .ty "list") (by rfl) T.m_list (by decide +kernel) rfl) pa_nil))))) (pw_or1 (pt_not (pt_val (pe_callB (cr_all rfl) (by rfl) T.m_all (by decide +kernel) (pa_cons (pe_lc (own := [("number", 1)]) rfl sc_law_is_poly.nd (pi_list (pv 0)) (blkOk_by (N := ["actual", "number"]) (sc := defScope s_law_is_poly) (by decide +kernel)) (fun _ _ _ _ _ => (pg_name (i := 1) sc_law_is_poly.nd rfl (.inl rfl))) (fun _ _ _ _ _ => pts_nil) (fun _ _ _ _ _ => (pe_call (ok_law_is_integer T) (hr.mono (by decide)) (by rfl) T.law_is_integer.g T.law_is_integer.F.kp T.law_is_integer.b .nil pass0 (pa_cons (pv 1) pa_nil)))) pa_nil)))))))
        (pss_one (ps_ret pe_bl))
        pss_nil)
      (pss_one (ps_ret (pe_or (pe_cmpR op_eq (pe_callB call_len_seq (by rfl) T.m_len (by decide +kernel) (pa_cons (pv 0) pa_nil)) pe_int (nomark _)) (pe_one (pe_cmpR op_ne (pe_ix ix_list (pv 0) (pe_un un_neg pe_int) (fun _ _ => rfl)) pe_int (nomark _))))))), ?_⟩
    refine ⟨_, rfl, _, _, _, _, true, rfl, .ty _, .base (.lst ha), kit_ty (by decide +kernel), true, rfl, iteF ?_⟩
    refine ⟨_, rfl, a, rfl, ⟨_, ha.sq⟩, fun D nD => ?_⟩
    refine lc_rel (a := a) (xs := ns.map V.int) (fun j y => y = .bl true) nD ha.sq (by rw [List.length_map]; exact small' (by omega)) (fun j x H' Q' hx sm hq => ?_) (fun H' ys sm hy hn hr => ?_)
    · obtain ⟨hj, rfl⟩ := map_get hx
      exact ⟨_, rfl, _, rfl, hq _ rfl⟩
    refine ⟨D, List.replicate ns.length true, rfl, SqL.of (by rw [hy, bls_of hn hr, List.length_map]), _, rfl, ?_⟩
    rw [all_rep]
    refine iteF ?_
    refine ⟨.ref a, rfl, a, _, rfl, .inl (ha.same sm).sq, rfl, _, rfl, ?_⟩
    rw [List.length_map]
    by_cases e : ns = []
    · subst e
      refine iteT ?_
      have := q _ sm
      rw [decide_eq_true (p := Can []) (.inl rfl)] at this
      exact this
    · rw [show decide (V.int (ns.length : Int) = V.int 0) = false from decide_eq_false (fun z => e (List.length_eq_zero_iff.mp (by have := V.int.inj z; omega)))]
      refine iteF ⟨.ref a, rfl, _, rfl, a, _, _, _, rfl, rfl, (ha.same sm).sq, at_last e, rfl, ?_⟩
      rw [can_last e]
      exact q _ sm

theorem zeros_of (n : Nat) : (List.range n).map (fun _ => (0 : Int)) = List.replicate n 0 := by
  refine List.ext_getElem (by simp) fun j h1 h2 => by simp
theorem ok_law_plus (T : Txt K mg) : FnOk P w K mg base CX0 1 T.law_plus.a T.law_plus.fd ["one", "two"] (sp2 padd) := by
  refine T.law_plus.F.ok sc_law_plus (fun vs H Q E h => ?_) (fun cdv A outer s H vs Q E hr h => ?_)
  · obtain ⟨a, b, ns, ms, rfl, _⟩ := h
    rfl
  · obtain ⟨a, b, ns, ms, rfl, ha, hb, hla, hlb, q⟩ := h
    refine ⟨_, (pss_cons (ps_setLc (i := 3) (own := [("k", 2)]) rfl sc_law_plus.nd rfl rfl (sw_true rfl rfl rfl (by decide +kernel)) (pi_range1 (by rfl) T.m_range (pa_cons (pe_callB (call_max2 rfl) (by rfl) T.m_max (by decide +kernel) (pa_cons (pe_callB call_len_seq (by rfl) T.m_len (by decide +kernel) (pa_cons (pv 0) pa_nil)) (pa_cons (pe_callB call_len_seq (by rfl) T.m_len (by decide +kernel) (pa_cons (pv 1) pa_nil)) pa_nil))) pa_nil)) (blkOk_by (N := ["one", "two", "k", "total", "last"]) (sc := defScope s_law_plus) (by decide +kernel)) (fun _ _ _ _ _ => (pg_name (i := 2) sc_law_plus.nd rfl (.inl rfl))) (fun _ _ _ _ _ => pts_nil) (fun _ _ _ _ _ => pe_int))
      (pss_cons (ps_for PassesOwn.never rfl (pi_range1 (by rfl) T.m_range (pa_cons (pe_callB call_len_seq (by rfl) T.m_len (by decide +kernel) (pa_cons (pv 0) pa_nil)) pa_nil)) (pg_name (i := 2) sc_law_plus.nd rfl (.inl rfl))
        (pss_one (ps_asg (pe_op op_add (pe_ix ix_list (pv 3) (pv 2) (fun _ _ => rfl)) (pe_ix ix_list (pv 0) (pv 2) (fun _ _ => rfl))) (pg_sub (pv 3) (pv 2) set_list))))
      (pss_cons (ps_for PassesOwn.never rfl (pi_range1 (by rfl) T.m_range (pa_cons (pe_callB call_len_seq (by rfl) T.m_len (by decide +kernel) (pa_cons (pv 1) pa_nil)) pa_nil)) (pg_name (i := 2) sc_law_plus.nd rfl (.inl rfl))
        (pss_one (ps_asg (pe_op op_add (pe_ix ix_list (pv 3) (pv 2) (fun _ _ => rfl)) (pe_ix ix_list (pv 1) (pv 2) (fun _ _ => rfl))) (pg_sub (pv 3) (pv 2) set_list))))
      (pss_cons (ps_set (i := 4) sc_law_plus.nd rfl (.inl rfl) pe_int)
      (pss_cons (ps_for PassesOwn.never rfl (pi_range1 (by rfl) T.m_range (pa_cons (pe_callB call_len_seq (by rfl) T.m_len (by decide +kernel) (pa_cons (pv 3) pa_nil)) pa_nil)) (pg_name (i := 2) sc_law_plus.nd rfl (.inl rfl))
        (pss_one (ps_if (pt_cmpR op_ne (pe_ix ix_list (pv 3) (pv 2) (fun _ _ => rfl)) pe_int (nomark _))
          (pss_one (ps_set (i := 4) sc_law_plus.nd rfl (.inl rfl) (pe_op op_add (pv 2) pe_int)))
          pss_nil)))
      (pss_one (ps_ret (pe_slice sl_list (pv 3) po_none (po_some (pv 4)))))))))), ?_⟩
    obtain ⟨L, hL, eL⟩ : ∃ L : Nat, L = max ns.length ms.length ∧ (if ((ms.map V.int).length : Int) > ((ns.map V.int).length : Int) then ((ms.map V.int).length : Int) else ((ns.map V.int).length : Int)) = (L : Int) := by
      refine ⟨_, rfl, ?_⟩
      rw [List.length_map, List.length_map]
      split <;> omega
    refine ⟨.ref a, rfl, a, _, rfl, .inl ha.sq, .ref b, rfl, b, _, rfl, .inl hb.sq, _, _, rfl, (L : Int), congrArg (fun z => [V.int z]) eL, by omega, by omega, fun p hp => ?_⟩
    refine lc_relR (n := (L : Int).toNat) (fun j y => y = .int 0) hp (small' (by omega)) (fun j H' Q' hj sm hq => hq _ rfl) (fun H' ys sm hy hn hr => ?_)
    rw [Int.toNat_natCast] at hn
    have e := ints_of (fun _ => 0) hn hr
    rw [zeros_of] at e
    have hp0 : IL H' p (List.replicate L 0) := by show H' p = _; rw [hy, e]
    -- the first one
    refine ⟨.ref a, rfl, a, _, rfl, .inl (ha.same sm).sq, _, rfl, by rw [List.length_map]; omega, by rw [List.length_map]; omega, ?_⟩
    rw [List.length_map]
    refine for_range (n := (ns.length : Int).toNat) (lo := 0) (fun i σ H' => Same H H' ∧ ∃ t v2 v4, σ = [some (.ref a), some (.ref b), v2, some (.ref p), v4] ∧ IL H' p t ∧ t.length = L ∧ ∀ m, cf t m = if m < i then cf ns m else 0) ⟨sm, List.replicate L 0, none, none, rfl, hp0, by simp, fun m => by rw [cf_rep]; simp⟩ (fun i σ H' hi hP => ?_) (fun σ H' hP => ?_)
    · obtain ⟨sm, t, v2, v4, rfl, hp', ht, hc⟩ := hP
      refine ⟨.ref p, rfl, _, rfl, p, _, _, _, rfl, rfl, hp'.sq, at_map' (m := i) (by omega) (by omega), .ref a, rfl, _, rfl, a, _, _, _, rfl, rfl, (ha.same sm).sq, at_map' (m := i) (by omega) (by omega), _, _, rfl, rfl, _, rfl, _, rfl, p, _, _, i, rfl, rfl, hp', ix_ok (by omega) (by rw [List.length_map, ht]; omega), ?_⟩
      rw [len_set]
      refine ⟨same_over sm hp, _, _, _, rfl, il_upd, by rw [List.length_set, ht], fun m => ?_⟩
      rw [cf_set (by omega), hc, hc]
      by_cases e : m = i
      · subst e
        rw [if_pos rfl, if_neg (Nat.lt_irrefl _), if_pos (Nat.lt_succ_self _)]; omega
      · rw [if_neg e]
        by_cases q : m < i
        · rw [if_pos q, if_pos (by omega)]
        · rw [if_neg q, if_neg (by omega)]
    obtain ⟨sm, t, v2, v4, rfl, hp', ht, hc⟩ := hP
    rw [Int.toNat_natCast] at hc
    -- the second one
    refine ⟨.ref b, rfl, b, _, rfl, .inl (hb.same sm).sq, _, rfl, by rw [List.length_map]; omega, by rw [List.length_map]; omega, ?_⟩
    rw [List.length_map]
    refine for_range (n := (ms.length : Int).toNat) (lo := 0) (fun i σ H' => Same H H' ∧ ∃ t v2 v4, σ = [some (.ref a), some (.ref b), v2, some (.ref p), v4] ∧ IL H' p t ∧ t.length = L ∧ ∀ m, cf t m = cf ns m + if m < i then cf ms m else 0) ⟨sm, t, v2, v4, rfl, hp', ht, fun m => ?_⟩ (fun i σ H' hi hP => ?_) (fun σ H' hP => ?_)
    · rw [hc]
      split
      · simp
      · rename_i q
        rw [cf_ge (show ns.length ≤ m by omega)]; simp
    · obtain ⟨sm, t, v2, v4, rfl, hp', ht, hc⟩ := hP
      refine ⟨.ref p, rfl, _, rfl, p, _, _, _, rfl, rfl, hp'.sq, at_map' (m := i) (by omega) (by omega), .ref b, rfl, _, rfl, b, _, _, _, rfl, rfl, (hb.same sm).sq, at_map' (m := i) (by omega) (by omega), _, _, rfl, rfl, _, rfl, _, rfl, p, _, _, i, rfl, rfl, hp', ix_ok (by omega) (by rw [List.length_map, ht]; omega), ?_⟩
      rw [len_set]
      refine ⟨same_over sm hp, _, _, _, rfl, il_upd, by rw [List.length_set, ht], fun m => ?_⟩
      rw [cf_set (by omega), hc, hc]
      by_cases e : m = i
      · subst e
        rw [if_pos rfl, if_neg (Nat.lt_irrefl _), if_pos (Nat.lt_succ_self _)]; omega
      · rw [if_neg e]
        by_cases q : m < i
        · rw [if_pos q, if_pos (by omega)]
        · rw [if_neg q, if_neg (by omega)]
    obtain ⟨sm, t, v2, v4, rfl, hp', ht, hc⟩ := hP
    rw [Int.toNat_natCast] at hc
    -- the last number
    refine ⟨.ref p, rfl, p, _, rfl, .inl hp'.sq, _, rfl, by rw [List.length_map]; omega, by rw [List.length_map]; omega, ?_⟩
    rw [List.length_map]
    refine for_range (n := (t.length : Int).toNat) (lo := 0) (fun i σ H2 => H2 = H' ∧ ∃ v2 l, σ = [some (.ref a), some (.ref b), v2, some (.ref p), some (.int (l : Nat))] ∧ LastOk t i l) ⟨rfl, v2, 0, rfl, .zero t⟩ (fun i σ H2 hi hP => ?_) (fun σ H2 hP => ?_)
    · obtain ⟨rfl, v2, l, rfl, hl⟩ := hP
      refine ⟨.ref p, rfl, _, rfl, p, _, _, _, rfl, rfl, hp'.sq, at_map' (m := i) (by omega) (by omega), rfl, _, rfl, ?_⟩
      by_cases h0 : cf t i = 0
      · rw [h0]
        exact iteF ⟨rfl, _, l, rfl, hl.keep h0⟩
      · rw [show (!decide (V.int (cf t i) = V.int 0)) = true by rw [decide_eq_false (fun z => h0 (V.int.inj z))]; rfl]
        refine iteT ⟨_, rfl, _, _, rfl, rfl, rfl, some (.int (0 + (i : Int))), i + 1, ?_, .new (L := l) h0⟩
        show [some (V.ref a), some (V.ref b), some (V.int (0 + (i : Int))), some (V.ref p), some (V.int (0 + (i : Int) + 1))] = _
        rw [show (0 + (i : Int) + 1) = ((i + 1 : Nat) : Int) by omega]
    · obtain ⟨rfl, v2, l, rfl, hl⟩ := hP
      rw [Int.toNat_natCast] at hl
      refine ⟨.ref p, rfl, _, rfl, _, rfl, p, _, rfl, hp'.sq, fun r hr => ?_⟩
      rw [cut_to hl.1, hl.take, padd_of (t := t) fun m => ?_]
      · exact q _ r (sm.trans (same_upd hr)) (sm.free hr) il_upd
      · rw [hc]
        split
        · rfl
        · rw [cf_ge (show ms.length ≤ m by omega)]
end
section
variable {P : Program} {w : World} {K : PySem.W.Frag} {mg : Str → Option Value} {base : Heap}
theorem rep_flat (b : Bool) (xs : List V) : (List.replicate (if b then (1 : Int) else 0).toNat xs).flatten = if b then xs else [] := by
  cases b with
  | false => rfl
  | true => show (xs :: []).flatten = xs; simp
theorem ok_law_times (T : Txt K mg) : FnOk P w K mg base CX0 2 T.law_times.a T.law_times.fd ["one", "two"] (fun vs H Q _ => ∃ (a b : Addr) (ns ms : List Int), vs = [.ref a, .ref b] ∧ IL H a ns ∧ IL H b ms ∧ ns.length ≤ 100 ∧ ms.length ≤ 100 ∧ Bd ns ∧ Bd ms ∧ Out H Q (pmul ns ms)) := by
  refine T.law_times.F.ok sc_law_times (fun vs H Q E h => ?_) (fun cdv A outer s H vs Q E hr h => ?_)
  · obtain ⟨a, b, ns, ms, rfl, _⟩ := h
    rfl
  · obtain ⟨a, b, ns, ms, rfl, ha, hb, hla, hlb, ba, bb, q⟩ := h
    refine ⟨_, (pss_cons (ps_set (i := 2) sc_law_times.nd rfl (.inl rfl) (pe_lst pa_nil))
      (pss_cons (ps_for PassesOwn.never rfl (pi_range1 (by rfl) T.m_range (pa_cons (pe_callB call_len_seq (by rfl) T.m_len (by decide +kernel) (pa_cons (pv 0) pa_nil)) pa_nil)) (pg_name (i := 3) sc_law_times.nd rfl (.inr rfl))
        (pss_one (ps_set (i := 2) sc_law_times.nd rfl (.inl rfl) (pe_call (ok_law_plus T) (hr.mono (by decide)) (by rfl) T.law_plus.g T.law_plus.F.kp T.law_plus.b .nil pass0 (pa_cons (pv 2) (pa_cons (pe_op op_cat (pe_lc (own := [("m", 4)]) rfl sc_law_times.nd (pi_range1 (by rfl) T.m_range (pa_cons (pv 3) pa_nil)) (blkOk_by (N := ["one", "two", "total", "k", "m", "number"]) (sc := defScope s_law_times) (by decide +kernel)) (fun _ _ _ _ _ => (pg_name (i := 4) sc_law_times.nd rfl (.inl rfl))) (fun _ _ _ _ _ => pts_nil) (fun _ _ _ _ _ => pe_int)) (pe_op op_rep (pe_lc (own := [("number", 5)]) rfl sc_law_times.nd (pi_list (pv 1)) (blkOk_by (N := ["one", "two", "total", "k", "m", "number"]) (sc := defScope s_law_times) (by decide +kernel)) (fun _ _ _ _ _ => (pg_name (i := 5) sc_law_times.nd rfl (.inl rfl))) (fun _ _ _ _ _ => pts_nil) (fun _ _ _ _ _ => (pe_op op_mulW (pe_ix (r := rIxL K) ix_list (pv 0) (pv 3) (fun _ _ => rfl)) (pv 5)))) (pe_callTy call_int1 (by rfl) T.m_int (by decide +kernel) (pa_cons (pe_cmpR op_ne (pe_ix ix_list (pv 0) (pv 3) (fun _ _ => rfl)) pe_int (nomark _)) pa_nil)))) pa_nil))))))
      (pss_one (ps_ret (pv 2))))), ?_⟩
    refine ⟨Nat.zero_le _, fun p0 hp0 => ?_⟩
    have s0 := same_upd (o := .lst []) hp0
    refine ⟨.ref a, rfl, a, _, rfl, .inl (ha.same s0).sq, _, rfl, by rw [List.length_map]; omega, by rw [List.length_map]; omega, ?_⟩
    rw [List.length_map]
    refine for_range (n := (ns.length : Int).toNat) (lo := 0) (fun i σ H' => Same H H' ∧ ∃ p t v3 v4 v5, σ = [some (.ref a), some (.ref b), some (.ref p), v3, v4, v5] ∧ H p = none ∧ IL H' p t ∧ Can t ∧ t.length ≤ i + ms.length ∧ ∀ m, cf t m = conv ns ms i m) ⟨s0, p0, [], none, none, none, rfl, hp0, upd_same, .inl rfl, Nat.zero_le _, fun m => rfl⟩ (fun i σ H' hi hP => ?_) (fun σ H' hP => ?_)
    · obtain ⟨sm, p, t, v3, v4, v5, rfl, hpn, hp', hcan, htl, hc⟩ := hP
      have hi' : i < ns.length := by omega
      refine ⟨.ref p, rfl, .int (0 + (i : Int)), rfl, _, rfl, by omega, by omega, fun D1 nD1 => ?_⟩
      refine lc_relR (n := (0 + (i : Int)).toNat) (fun j y => y = .int 0) nD1 (small' (by omega)) (fun j H' Q' hj sm hq => hq _ rfl) (fun H1 ys1 s1 hy1 hn1 hr1 => ?_)
      have e1 := ints_of (fun _ => 0) hn1 hr1
      rw [zeros_of, show (0 + (i : Int)).toNat = i by omega] at e1
      have sm1 := sm.trans s1
      refine ⟨.ref b, rfl, b, rfl, ⟨_, (hb.same sm1).sq⟩, fun D2 nD2 => ?_⟩
      refine lc_rel (a := b) (xs := ms.map V.int) (fun j y => y = .int (cf ns i * cf ms j)) nD2 (hb.same sm1).sq (by rw [List.length_map]; exact small' (by omega)) (fun j x H2 Q' hx s2 hq => ?_) (fun H2 ys2 s2 hy2 hn2 hr2 => ?_)
      · obtain ⟨hj, rfl⟩ := map_get hx
        exact ⟨.ref a, rfl, .int (0 + (i : Int)), rfl, a, _, _, _, rfl, rfl, ((ha.same sm1).same s2).sq, at_map' (m := i) (by omega) hi', _, rfl, _, _, rfl, rfl, wide100 (ba i) (bb j), hq _ rfl⟩
      rw [List.length_map] at hn2
      have e2 := ints_of (fun j => cf ns i * cf ms j) hn2 hr2
      rw [scale_range] at e2
      have sm2 := sm1.trans s2
      refine ⟨.ref a, rfl, .int (0 + (i : Int)), rfl, a, _, _, _, rfl, rfl, (ha.same sm2).sq, at_map' (m := i) (by omega) hi', rfl, .inr ⟨_, rfl, ?_⟩⟩
      have ek : (!decide (V.int (cf ns i) = V.int 0)) = decide (cf ns i ≠ 0) := by
        by_cases h0 : cf ns i = 0
        · rw [h0]; rfl
        · rw [decide_eq_false (fun z => h0 (V.int.inj z)), decide_eq_true h0]; rfl
      rw [ek]
      refine ⟨D2, _, _, rfl, rfl, hy2, by split <;> decide, by split <;> decide, ?_, fun D3 nD3 => ?_⟩
      · rw [hn2]
        refine small (Nat.le_trans (Nat.mul_le_mul_left _ (show _ ≤ 1 by split <;> decide)) (by omega))
      have s3 := s2.trans (same_upd (o := .lst (List.replicate (if decide (cf ns i ≠ 0) then (1 : Int) else 0).toNat ys2).flatten) nD3)
      have e3 : (List.replicate (if decide (cf ns i ≠ 0) then (1 : Int) else 0).toNat ys2).flatten = (if cf ns i ≠ 0 then ms.map (cf ns i * ·) else []).map V.int := by
        rw [rep_flat, e2]
        by_cases h0 : cf ns i = 0
        · rw [h0]; rfl
        · rw [decide_eq_true h0, if_pos h0]; rfl
      have l3 : (if cf ns i ≠ 0 then ms.map (cf ns i * ·) else []).length ≤ ms.length := by
        split
        · simp
        · exact Nat.zero_le _
      have hD1 := s3 _ _ hy1
      rw [e3] at hD1 s3 ⊢
      refine ⟨D1, D3, _, _, rfl, rfl, hD1, upd_same, ?_, fun D4 nD4 => ?_⟩
      · rw [List.length_map, hn1]
        exact small (by omega)
      have s4 := s3.trans (same_upd (o := .lst (ys1 ++ (if cf ns i ≠ 0 then ms.map (cf ns i * ·) else []).map V.int)) nD4)
      have e4 : ys1 ++ (if cf ns i ≠ 0 then ms.map (cf ns i * ·) else []).map V.int = (List.replicate i 0 ++ if cf ns i ≠ 0 then ms.map (cf ns i * ·) else []).map V.int := by
        rw [e1, List.map_append]
      have smF : Same H' _ := s1.trans s4
      refine ⟨p, D4, t, _, rfl, hp'.same smF, by show upd _ _ _ _ = _; rw [upd_same, e4], by omega, by rw [List.length_append, List.length_replicate]; omega, fun H5 r s5 hr5 hi5 => ?_⟩
      refine ⟨(sm.trans smF).trans s5, r, _, _, _, _, rfl, (sm.trans smF).free hr5, hi5, can_padd _ _, ?_, fun m => conv_turn hc m⟩
      have := padd_len t (List.replicate i 0 ++ if cf ns i ≠ 0 then ms.map (cf ns i * ·) else [])
      rw [List.length_append, List.length_replicate] at this
      omega
    · obtain ⟨sm, p, t, v3, v4, v5, rfl, hpn, hp', hcan, htl, hc⟩ := hP
      rw [Int.toNat_natCast] at hc
      refine ⟨_, rfl, q _ p sm hpn ?_⟩
      rw [show pmul ns ms = t from can_ext (can_pmul _ _) hcan fun m => by rw [cf_pmul, hc]]
      exact hp'

theorem pval_drop (x : Int) {ns : List Int} {i : Nat} (h : i < ns.length) : pval x (ns.drop i) = pval x (ns.drop (i + 1)) * x + cf ns i := by
  rw [List.drop_eq_getElem_cons h, ← cf_lt h]
  rfl
def sp_law_value : Sp := fun vs H Q _ => ∃ (a : Addr) (ns : List Int) (x : Int), vs = [.ref a, .int x] ∧ IL H a ns ∧ ns.length ≤ 400 ∧ Bd ns ∧ x.natAbs ≤ 1000 ∧ Q (.int (pval x ns)) H
theorem ok_law_value (T : Txt K mg) : FnOk P w K mg base CX0 1 T.law_value.a T.law_value.fd ["one", "at"] sp_law_value := by
  refine T.law_value.F.ok sc_law_value (fun vs H Q E h => ?_) (fun cdv A outer s H vs Q E hr h => ?_)
  · obtain ⟨a, ns, x, rfl, _⟩ := h
    rfl
  · obtain ⟨a, ns, x, rfl, ha, hl, hb, hx, q⟩ := h
    refine ⟨_, (pss_cons (ps_set (i := 2) sc_law_value.nd rfl (.inl rfl) pe_int)
      (pss_cons (ps_set (i := 3) sc_law_value.nd rfl (.inl rfl) pe_int)
      (pss_cons (ps_for PassesOwn.never rfl (pi_list (pv 0)) (pg_name (i := 4) sc_law_value.nd rfl (.inl rfl))
        (pss_cons (ps_set (i := 2) sc_law_value.nd rfl (.inl rfl) (pe_op op_add (pv 2) (pe_op op_mulW (pv 4) (pv 3))))
        (pss_one (ps_set (i := 3) sc_law_value.nd rfl (.inl rfl) (pe_op op_mulW (pv 3) (pv 1))))))
      (pss_one (ps_ret (pv 2)))))), ?_⟩
    refine ⟨.ref a, rfl, a, rfl, ⟨_, ha.sq⟩, ?_⟩
    refine for_list (xs := ns.map V.int) (fun i σ H' => H' = H ∧ ∃ t v4, σ = [some (.ref a), some (.int x), some (.int t), some (.int (x ^ i)), v4] ∧ t + x ^ i * pval x (ns.drop i) = pval x ns) ⟨rfl, 0, none, by rw [Int.pow_zero]; rfl, ?_⟩ (fun i σ H' _ p => by rw [p.1]; exact ha.sq) (fun i v σ H' hv hP => ?_) (fun σ H' hP => ?_)
    · rw [Int.pow_zero, List.drop_zero]; omega
    · obtain ⟨rfl, t, v4, rfl, ht⟩ := hP
      obtain ⟨hi, rfl⟩ := map_get hv
      have pb := pow_bound hx i
      refine ⟨_, rfl, _, rfl, _, rfl, _, _, rfl, rfl, wide_mul (hb i) pb (by decide) (by omega) (by omega), _, _, rfl, rfl, _, rfl, _, rfl, _, _, rfl, rfl, wide_mul (b := 10) pb (by omega) (by omega) (by decide) (by omega), rfl, t + cf ns i * x ^ i, some (.int (cf ns i)), ?_, ?_⟩
      · rw [Int.pow_succ]; rfl
      · rw [← ht, pval_drop x hi, Int.pow_succ, Int.mul_add, Int.mul_comm (cf ns i) (x ^ i), Int.mul_assoc, Int.mul_comm x]
        omega
    · obtain ⟨rfl, t, v4, rfl, ht⟩ := hP
      rw [List.length_map, List.drop_length] at ht
      refine ⟨_, rfl, ?_⟩
      have e : pval x ns = t := by rw [← ht]; show t + _ * 0 = t; omega
      rw [e] at q
      exact q

def sp_law_drawn : Sp := fun vs H Q _ => ∃ (a : Addr) (ds : List Int) (k : Int), vs = [.ref a, .int k] ∧ IL H a ds ∧ 0 ≤ k ∧ OutP H Q
theorem ok_law_drawn (T : Txt K mg) : FnOk P w K mg base CX0 4 T.law_drawn.a T.law_drawn.fd ["draws", "first"] sp_law_drawn := by
  refine T.law_drawn.F.ok sc_law_drawn (fun vs H Q E h => ?_) (fun cdv A outer s H vs Q E hr h => ?_)
  · obtain ⟨a, ds, k, rfl, _⟩ := h
    rfl
  · obtain ⟨a, ds, k, rfl, ha, hk, q⟩ := h
    refine ⟨_, (pss_cons (ps_if (pt_cmpR op_eq (pe_call (ok_law_at T) (hr.mono (by decide)) (by rfl) T.law_at.g T.law_at.F.kp T.law_at.b .nil pass0 (pa_cons (pv 0) (pa_cons (pv 1) (pa_cons pe_int pa_nil)))) pe_int (nomark _))
        (pss_cons (ps_set (i := 2) sc_law_drawn.nd rfl (.inr rfl) (pe_op op_add pe_int (pe_call (ok_law_at T) (hr.mono (by decide)) (by rfl) T.law_at.g T.law_at.F.kp T.law_at.b .nil pass0 (pa_cons (pv 0) (pa_cons (pe_op op_add (pv 1) pe_int) (pa_cons pe_int pa_nil))))))
        (pss_one (ps_ret (pe_op op_cat (pe_lc (own := [("k", 3)]) rfl sc_law_drawn.nd (pi_range1 (by rfl) T.m_range (pa_cons pe_int pa_nil)) (blkOk_by (N := ["draws", "first", "step", "k"]) (sc := defScope s_law_drawn) (by decide +kernel)) (fun _ _ _ _ _ => (pg_name (i := 3) sc_law_drawn.nd rfl (.inl rfl))) (fun _ _ _ _ _ => pts_nil) (fun _ _ _ _ _ => (pe_op op_sub (pe_op op_mod (pe_callTy call_int1 (by rfl) T.m_int (by decide +kernel) (pa_cons (pe_op op_add (pe_op op_mul (pe_op op_mul (pv 2) (pv 3)) (pv 3)) (pe_op op_fdiv (pv 3) pe_int)) pa_nil)) pe_int) pe_int))) (pe_lst (pa_cons (pe_op op_sub pe_int (pe_op op_mul pe_int (pe_call (ok_law_at T) (hr.mono (by decide)) (by rfl) T.law_at.g T.law_at.F.kp T.law_at.b .nil pass0 (pa_cons (pv 0) (pa_cons (pe_op op_add (pv 1) pe_int) (pa_cons pe_int pa_nil)))))) pa_nil))))))
        pss_nil)
      (pss_one (ps_ret (pe_call (ok_law_poly T) (hr.mono (by decide)) (by rfl) T.law_poly.g T.law_poly.F.kp T.law_poly.b .nil pass0 (pa_cons (pv 0) (pa_cons (pe_op op_add (pv 1) pe_int) (pa_cons pe_int pa_nil))))))), ?_⟩
    refine ⟨.ref a, rfl, _, rfl, a, ds, k, _, rfl, ha, hk, by decide, fun n _ _ => ⟨rfl, _, rfl, ite2 (fun _ => ?_) (fun _ => ?_)⟩⟩
    · refine ⟨.ref a, rfl, _, rfl, _, _, rfl, rfl, a, ds, _, _, rfl, ha, by omega, by decide, fun st hs0 hs1 => ⟨_, _, rfl, rfl, ?_⟩⟩
      refine ⟨40, rfl, by decide, by decide, fun D nD => ?_⟩
      refine lc_relR (n := 40) (fun j y => ∃ x, y = .int x ∧ x.natAbs < 2 ^ 100) nD (small' (by omega)) (fun j H' Q' hj sm hq => ?_) (fun H' ys sm hy hn hr => ?_)
      · exact ⟨_, rfl, _, rfl, _, _, rfl, rfl, .inl ⟨by omega, by omega⟩, _, rfl, _, _, rfl, rfl, .inr ⟨by omega, by omega⟩, _, rfl, _, _, rfl, rfl, ⟨by decide, by decide⟩, _, _, rfl, rfl, .inl ⟨_, rfl, _, _, rfl, rfl, (by show (0 : Int) < _; decide), _, _, rfl, rfl, hq _ ⟨_, rfl, by omega⟩⟩⟩
      obtain ⟨ns, rfl, hb⟩ := ints_ex (R := fun _ x => x.natAbs < 2 ^ 100) hr
      rw [List.length_map] at hn
      refine ⟨.ref a, rfl, _, rfl, _, _, rfl, rfl, a, ds, _, _, rfl, (ha.same sm), by omega, by decide, fun r hr0 hr1 => ⟨_, _, rfl, rfl, .inl ⟨by decide, by decide⟩, _, _, rfl, rfl, ?_⟩⟩
      refine ⟨Nat.le_of_lt (small' (by show 1 < 60000; decide)), fun o ho => ⟨D, o, _, [_], rfl, rfl, (same_upd ho) _ _ hy, upd_same, ?_, fun p hp => ?_⟩⟩
      · rw [List.length_map, hn]; exact small (by show 40 + 1 ≤ 60000; decide)
      · rw [app_ints]
        have s3 := (sm.trans (same_upd (o := .lst [V.int (1 - 2 * r)]) ho)).trans (same_upd (o := .lst ((ns ++ [1 - 2 * r]).map V.int)) hp)
        refine q _ p (ns ++ [1 - 2 * r]) s3 ((sm.trans (same_upd ho)).free hp) il_upd (.inr ?_) (fun m => ?_) (by rw [List.length_append, hn]; show 40 + 1 ≤ 41; decide)
        · rw [List.length_append, cf_app, if_neg (by show ¬ ns.length + 1 - 1 < ns.length; omega), if_pos (by show ns.length + 1 - 1 = _; omega)]
          omega
        · rw [cf_app]
          split
          · exact hb m (by assumption)
          · split
            · omega
            · decide
    · refine ⟨.ref a, rfl, _, rfl, _, _, rfl, rfl, a, ds, _, rfl, ha, by omega, q⟩
end
section
variable {P : Program} {w : World} {K : PySem.W.Frag} {mg : Str → Option Value} {base : Heap}
/-- [e for x in xs], where an element may lay things -/
theorem lc_relS {K : PySem.W.Frag} {a : Addr} {xs : List V} {te : TE} {i : Nat} {σ : L2.St} {H1 : Hp} {D : Addr} {Qd : Hp → Prop} (R : Nat → V → Prop) (nD : H1 D = none) (hS : SqL K H1 a xs) (hl : xs.length < sizeLine)
    (ht : ∀ (j : Nat) (x : V) (H' : Hp) (Q : VK), xs[j]? = some x → Same H1 H' → (∀ y H4, Same H' H4 → R j y → Q y H4) → te ((wipe σ [i]).set i (some x)) H' Q)
    (hd : ∀ H' ys, Same H1 H' → H' D = some (.lst ys) → ys.length = xs.length → (∀ j y, ys[j]? = some y → R j y) → Qd H') :
    ∃ W : Nat → Nat → Hp → Prop, (∃ m, W 0 m (upd H1 D (.lst []))) ∧ ∀ i' m H, W i' m H →
      ((Itl K a).stop i' H ∧ Qd H) ∨ ((Itl K a).go i' H ∧ ∃ Nx : Hp → Prop, (∀ H', Nx H' → ∃ m', m' < m ∧ W (i' + 1) m' H') ∧ ∀ x H', (Itl K a).yld i' H x H' → (gName i) x (wipe σ [i]) H' fun σ2 H2 => wipe σ2 [i] = wipe σ [i] ∧ tYes σ2 H2 fun b H3 =>
        if b = true then te σ2 H3 fun y H4 => ∃ acc, H4 D = some (.lst acc) ∧ acc.length < sizeLine ∧ Nx (upd H4 D (.lst (acc ++ [y]))) else Nx H3) := by
  refine lc_list (xs := xs) (fun j H => Same H1 H ∧ ∃ ys, H D = some (.lst ys) ∧ ys.length = j ∧ ∀ k y, ys[k]? = some y → R k y) ⟨same_upd nD, [], upd_same, rfl, fun k y h => by simp at h⟩ (fun j H _ p => p.1.seq hS) (fun j x H hx p => ?_) (fun H p => ?_)
  · obtain ⟨sm, ys, hy, hn, hr⟩ := p
    refine ⟨wipe1, ?_⟩
    refine ht j x H _ hx sm fun y H4 s4 r => ?_
    have hj := (List.getElem?_eq_some_iff.mp hx).1
    refine ⟨ys, s4 _ _ hy, by omega, same_over (sm.trans s4) nD, _, upd_same, by simp [hn], fun k z hz => ?_⟩
    rcases Nat.lt_or_ge k ys.length with q | q
    · rw [List.getElem?_append_left q] at hz
      exact hr k z hz
    · have e : k = ys.length := by
        have := (List.getElem?_eq_some_iff.mp hz).1
        simp at this
        omega
      subst e
      rw [List.getElem?_append_right (Nat.le_refl _)] at hz
      simp at hz
      rw [← hz, hn]
      exact r
  · obtain ⟨sm, ys, hy, hn, hr⟩ := p
    exact hd H ys sm hy hn hr
theorem call_repr_bl {X : Cx} : CallR X (.builtin "repr") (fun xs H Q => ∃ b : Bool, xs = [.bl b] ∧ Q (.str (if b then "True" else "False")) H) := by
  intro pins s σ H xs us Q I r h
  obtain ⟨b, rfl, q⟩ := h
  obtain ⟨u, rfl, e⟩ := vals1 r
  cases (show u = Value.bool b from e)
  exact PySem.P.repr_of_bool ⟨.str _, H, I.tok _, ⟨_, rfl⟩, q⟩
theorem wideP {p : Int} {b : Bool} (h0 : 0 ≤ p) (h1 : p < 41) : CMulW p (if b then 1 else 0) := wide_mul (a := 6) (b := 1) (by omega) (by cases b <;> decide) (by decide) (by decide) (by decide)
/-- one of several lists of ints, all of them younger than H0 -/
def Young (H0 H : Hp) (n : Nat) (x : V) : Prop := ∃ (q : Addr) (r : List Int), x = .ref q ∧ H0 q = none ∧ IL H q r ∧ r.length ≤ n

theorem can_pscale {c : Int} {ns : List Int} (h : Can ns) : Can (pscale c ns) := by
  unfold pscale
  split
  · exact .inl rfl
  · rename_i hc
    rcases h with e | e
    · rw [e]; exact .inl rfl
    · refine .inr ?_
      rw [List.length_map, cf_scale]
      exact Int.mul_ne_zero hc e
theorem can_praise {k : Nat} {ns : List Int} (h : Can ns) : Can (praise k ns) := by
  unfold praise
  split
  · exact .inl rfl
  · rename_i hn
    rcases h with e | e
    · exact absurd e hn
    · refine .inr ?_
      have hp : 0 < ns.length := by
        rcases Nat.eq_zero_or_pos ns.length with z | z
        · exact absurd (List.length_eq_zero_iff.mp z) hn
        · exact z
      rw [List.length_append, List.length_replicate, cf_shift, if_pos (by omega), show k + ns.length - 1 - k = ns.length - 1 by omega]
      exact e
theorem lst_ne {xs : List V} {q : Addr} {r : List Int} {a : Addr} (h : xs = V.ref a :: xs.tail) : HO.lst xs ≠ HO.lst (r.map V.int) := by
  intro z
  injection z with z
  rw [h] at z
  cases r with
  | nil => cases z
  | cons y r => injection z with z1 _; cases z1

def sp_law (K : PySem.W.Frag) : Sp := fun vs H Q _ => ∃ (a : Addr) (ns : List Int), vs = [.ref a] ∧ SqL K H a (ns.map V.int) ∧ ns.length ≤ 63 ∧ ∀ H', Q (.bl true) H'
theorem ok_law (T : Txt K mg) : FnOk P w K mg base CX0 5 T.law.a T.law.fd ["script"] (sp_law K) := by
  refine T.law.F.ok sc_law (fun vs H Q E h => ?_) (fun cdv A outer s H vs Q E hr h => ?_)
  · obtain ⟨a, ns, rfl, _⟩ := h
    rfl
  · obtain ⟨a, sc, rfl, hS, hl, q⟩ := h
    refine ⟨_, (pss_cons (ps_set (i := 1) sc_law.nd rfl (.inl rfl) (pe_call (ok_law_draws T) (hr.mono (by decide)) (by rfl) T.law_draws.g T.law_draws.F.kp T.law_draws.b .nil pass0 (pa_cons (pv 0) pa_nil)))
      (pss_cons (ps_set (i := 2) sc_law.nd rfl (.inl rfl) (pe_call (ok_law_drawn T) (hr.mono (by decide)) (by rfl) T.law_drawn.g T.law_drawn.F.kp T.law_drawn.b .nil pass0 (pa_cons (pv 1) (pa_cons pe_int pa_nil))))
      (pss_cons (ps_set (i := 3) sc_law.nd rfl (.inl rfl) (pe_call (ok_law_drawn T) (hr.mono (by decide)) (by rfl) T.law_drawn.g T.law_drawn.F.kp T.law_drawn.b .nil pass0 (pa_cons (pv 1) (pa_cons pe_int pa_nil))))
      (pss_cons (ps_set (i := 4) sc_law.nd rfl (.inl rfl) (pe_tup (pa_cons (pe_callTy call_list_of (by rfl) T.m_list (by decide +kernel) (pa_cons (pv 2) pa_nil)) (pa_cons (pe_callTy call_list_of (by rfl) T.m_list (by decide +kernel) (pa_cons (pv 3) pa_nil)) pa_nil))))
      (pss_cons (ps_set (i := 5) sc_law.nd rfl (.inr rfl) (pe_call (ok_law_number T) (hr.mono (by decide)) (by rfl) T.law_number.g T.law_number.F.kp T.law_number.b .nil pass0 (pa_cons (pv 1) (pa_cons pe_int pa_nil))))
      (pss_cons (ps_set (i := 6) sc_law.nd rfl (.inl rfl) (pe_call (ok_law_at T) (hr.mono (by decide)) (by rfl) T.law_at.g T.law_at.F.kp T.law_at.b .nil pass0 (pa_cons (pv 1) (pa_cons pe_int (pa_cons pe_int pa_nil)))))
      (pss_cons (ps_set (i := 7) sc_law.nd rfl (.inl rfl) (pe_op op_sub (pe_call (ok_law_at T) (hr.mono (by decide)) (by rfl) T.law_at.g T.law_at.F.kp T.law_at.b .nil pass0 (pa_cons (pv 1) (pa_cons pe_int (pa_cons pe_int pa_nil)))) pe_int))
      (pss_cons (ps_set (i := 8) sc_law.nd rfl (.inl rfl) (pe_lst (pa_cons (pe_call (ok_law_plus T) (hr.mono (by decide)) (by rfl) T.law_plus.g T.law_plus.F.kp T.law_plus.b .nil pass0 (pa_cons (pv 2) (pa_cons (pv 3) pa_nil))) (pa_cons (pe_call (ok_law_times T) (hr.mono (by decide)) (by rfl) T.law_times.g T.law_times.F.kp T.law_times.b .nil pass0 (pa_cons (pv 2) (pa_cons (pv 3) pa_nil))) (pa_cons (pe_op op_rep (pe_lc (own := [("part", 15)]) rfl sc_law.nd (pi_list (pv 2)) (blkOk_by (N := ["script", "draws", "one", "two", "kept", "number", "power", "at", "due", "turn", "told", "each", "loose", "short", "k", "part"]) (sc := defScope s_law) (by decide +kernel)) (fun _ _ _ _ _ => (pg_name (i := 15) sc_law.nd rfl (.inl rfl))) (fun _ _ _ _ _ => pts_nil) (fun _ _ _ _ _ => (pe_op op_mulW (pv 5) (pv 15)))) (pe_callTy call_int1 (by rfl) T.m_int (by decide +kernel) (pa_cons (pe_cmpR op_ne (pv 5) pe_int (nomark _)) pa_nil))) pa_nil)))))
      (pss_cons (ps_expr (pe_bm PySem.F.plainAttrs_list PySem.F.slot_list_append PySem.F.type_list_append mt_append (pv 8) (pa_cons (pe_op op_cat (pe_lc (own := [("k", 14)]) rfl sc_law.nd (pi_range1 (by rfl) T.m_range (pa_cons (pe_op op_mulW (pv 6) (pe_callTy call_int1 (by rfl) T.m_int (by decide +kernel) (pa_cons (pe_cmpR (op_neD hr.units) (pv 2) (pe_lst pa_nil) (nomark _)) pa_nil))) pa_nil)) (blkOk_by (N := ["script", "draws", "one", "two", "kept", "number", "power", "at", "due", "turn", "told", "each", "loose", "short", "k", "part"]) (sc := defScope s_law) (by decide +kernel)) (fun _ _ _ _ _ => (pg_name (i := 14) sc_law.nd rfl (.inl rfl))) (fun _ _ _ _ _ => pts_nil) (fun _ _ _ _ _ => pe_int)) (pv 2)) pa_nil)))
      (pss_cons (ps_for PassesOwn.never rfl (pi_range1 (by rfl) T.m_range (pa_cons pe_int pa_nil)) (pg_name (i := 9) sc_law.nd rfl (.inl rfl))
        (pss_cons (ps_set (i := 10) sc_law.nd rfl (.inl rfl) (pe_lst (pa_cons (pe_call (ok_plus T) (hr.mono (by decide)) (by rfl) T.plus.g T.plus.F.kp T.plus.b .nil pass0 (pa_cons (pv 2) (pa_cons (pv 3) pa_nil))) (pa_cons (pe_call (ok_times T) (hr.mono (by decide)) (by rfl) T.times.g T.times.F.kp T.times.b .nil pass0 (pa_cons (pv 2) (pa_cons (pv 3) pa_nil))) (pa_cons (pe_call (ok_scaled T) (hr.mono (by decide)) (by rfl) T.scaled.g T.scaled.F.kp T.scaled.b .nil pass0 (pa_cons (pv 2) (pa_cons (pv 5) pa_nil))) (pa_cons (pe_call (ok_raised T) (hr.mono (by decide)) (by rfl) T.raised.g T.raised.F.kp T.raised.b .nil pass0 (pa_cons (pv 2) (pa_cons (pv 6) pa_nil))) pa_nil))))))
        (pss_cons (ps_if (PW.pt (pw_or (pt_cmpR (op_neD hr.units) (pv 10) (pv 8) (nomark _)) (pw_or (pt_not (pt_val (pe_callB (cr_all rfl) (by rfl) T.m_all (by decide +kernel) (pa_cons (pe_lc (own := [("each", 11)]) rfl sc_law.nd (pi_list (pv 10)) (blkOk_by (N := ["script", "draws", "one", "two", "kept", "number", "power", "at", "due", "turn", "told", "each", "loose", "short", "k", "part"]) (sc := defScope s_law) (by decide +kernel)) (fun _ _ _ _ _ => (pg_name (i := 11) sc_law.nd rfl (.inl rfl))) (fun _ _ _ _ _ => pts_nil) (fun _ _ _ _ _ => (pe_call (ok_law_is_poly T) (hr.mono (by decide)) (by rfl) T.law_is_poly.g T.law_is_poly.F.kp T.law_is_poly.b .nil pass0 (pa_cons (pv 11) pa_nil)))) pa_nil)))) (pw_or1 (pt_cmpR (op_neD hr.units) (pe_tup (pa_cons (pv 2) (pa_cons (pv 3) pa_nil))) (pv 4) (nomark _))))))
          (pss_one (ps_ret pe_bl))
          pss_nil)
        (pss_one (ps_for PassesOwn.never rfl (pi_list (pv 10)) (pg_name (i := 11) sc_law.nd rfl (.inl rfl))
          (pss_one (ps_expr (pe_bm PySem.F.plainAttrs_list PySem.F.slot_list_append PySem.F.type_list_append mt_append (pv 11) (pa_cons pe_int pa_nil)))))))))
      (pss_cons (ps_if (PW.pt (pw_or (pt_not (pt_val (pe_call (ok_law_is_integer T) (hr.mono (by decide)) (by rfl) T.law_is_integer.g T.law_is_integer.F.kp T.law_is_integer.b .nil pass0 (pa_cons (pe_call (ok_degree T) (hr.mono (by decide)) (by rfl) T.degree.g T.degree.F.kp T.degree.b .nil pass0 (pa_cons (pv 2) pa_nil)) pa_nil)))) (pw_or (pt_cmpR op_ne (pe_call (ok_degree T) (hr.mono (by decide)) (by rfl) T.degree.g T.degree.F.kp T.degree.b .nil pass0 (pa_cons (pv 2) pa_nil)) (pe_op op_sub (pe_callB call_len_seq (by rfl) T.m_len (by decide +kernel) (pa_cons (pv 2) pa_nil)) pe_int) (nomark _)) (pw_or1 (pt_cmpR op_ne (pe_call (ok_degree T) (hr.mono (by decide)) (by rfl) T.degree.g T.degree.F.kp T.degree.b .nil pass0 (pa_cons (pv 3) pa_nil)) (pe_op op_sub (pe_callB call_len_seq (by rfl) T.m_len (by decide +kernel) (pa_cons (pv 3) pa_nil)) pe_int) (nomark _))))))
        (pss_one (ps_ret pe_bl))
        pss_nil)
      (pss_cons (ps_if (PW.pt (pw_or (pt_cmpR op_ne (pe_call (ok_value T) (hr.mono (by decide)) (by rfl) T.value.g T.value.F.kp T.value.b .nil pass0 (pa_cons (pv 2) (pa_cons (pv 7) pa_nil))) (pe_call (ok_law_value T) (hr.mono (by decide)) (by rfl) T.law_value.g T.law_value.F.kp T.law_value.b .nil pass0 (pa_cons (pv 2) (pa_cons (pv 7) pa_nil))) (nomark _)) (pw_or1 (pt_cmpR op_ne (pe_call (ok_value T) (hr.mono (by decide)) (by rfl) T.value.g T.value.F.kp T.value.b .nil pass0 (pa_cons (pv 3) (pa_cons (pe_un un_neg (pv 7)) pa_nil))) (pe_call (ok_law_value T) (hr.mono (by decide)) (by rfl) T.law_value.g T.law_value.F.kp T.law_value.b .nil pass0 (pa_cons (pv 3) (pa_cons (pe_un un_neg (pv 7)) pa_nil))) (nomark _)))))
        (pss_one (ps_ret pe_bl))
        pss_nil)
      (pss_cons (ps_set (i := 12) sc_law.nd rfl (.inl rfl) (pe_op op_cat (pe_op op_cat (pv 2) (pe_lc (own := [("k", 14)]) rfl sc_law.nd (pi_range1 (by rfl) T.m_range (pa_cons (pe_call (ok_law_at T) (hr.mono (by decide)) (by rfl) T.law_at.g T.law_at.F.kp T.law_at.b .nil pass0 (pa_cons (pv 1) (pa_cons pe_int (pa_cons pe_int pa_nil)))) pa_nil)) (blkOk_by (N := ["script", "draws", "one", "two", "kept", "number", "power", "at", "due", "turn", "told", "each", "loose", "short", "k", "part"]) (sc := defScope s_law) (by decide +kernel)) (fun _ _ _ _ _ => (pg_name (i := 14) sc_law.nd rfl (.inl rfl))) (fun _ _ _ _ _ => pts_nil) (fun _ _ _ _ _ => pe_int))) (pe_slice sl_list (pe_lst (pa_cons (pe_op op_sub (pe_call (ok_law_at T) (hr.mono (by decide)) (by rfl) T.law_at.g T.law_at.F.kp T.law_at.b .nil pass0 (pa_cons (pv 1) (pa_cons pe_int (pa_cons pe_int pa_nil)))) pe_int) pa_nil)) po_none (po_some (pe_call (ok_law_at T) (hr.mono (by decide)) (by rfl) T.law_at.g T.law_at.F.kp T.law_at.b .nil pass0 (pa_cons (pv 1) (pa_cons pe_int (pa_cons pe_int pa_nil))))))))
      (pss_cons (ps_set (i := 12) sc_law.nd rfl (.inl rfl) (pe_op op_cat (pv 12) (pe_lc (own := [("k", 14)]) rfl sc_law.nd (pi_range1 (by rfl) T.m_range (pa_cons (pe_call (ok_law_at T) (hr.mono (by decide)) (by rfl) T.law_at.g T.law_at.F.kp T.law_at.b .nil pass0 (pa_cons (pv 1) (pa_cons pe_int (pa_cons pe_int pa_nil)))) pa_nil)) (blkOk_by (N := ["script", "draws", "one", "two", "kept", "number", "power", "at", "due", "turn", "told", "each", "loose", "short", "k", "part"]) (sc := defScope s_law) (by decide +kernel)) (fun _ _ _ _ _ => (pg_name (i := 14) sc_law.nd rfl (.inl rfl))) (fun _ _ _ _ _ => pts_nil) (fun _ _ _ _ _ => pe_int))))
      (pss_cons (ps_set (i := 13) sc_law.nd rfl (.inl rfl) (pe_call (ok_law_plus T) (hr.mono (by decide)) (by rfl) T.law_plus.g T.law_plus.F.kp T.law_plus.b .nil pass0 (pa_cons (pv 12) (pa_cons (pe_lst pa_nil) pa_nil))))
      (pss_cons (ps_set (i := 10) sc_law.nd rfl (.inl rfl) (pe_call (ok_trimmed T) (hr.mono (by decide)) (by rfl) T.trimmed.g T.trimmed.F.kp T.trimmed.b .nil pass0 (pa_cons (pv 12) pa_nil)))
      (pss_cons (ps_if (PW.pt (pw_or (pt_not (pt_val (pe_call (ok_law_is_poly T) (hr.mono (by decide)) (by rfl) T.law_is_poly.g T.law_is_poly.F.kp T.law_is_poly.b .nil pass0 (pa_cons (pv 10) pa_nil)))) (pw_or (pt_cmpR (op_neD hr.units) (pv 10) (pv 13) (nomark _)) (pw_or1 (pt_cmpR op_ne (pe_callB call_repr_bl (by rfl) T.m_repr (by decide +kernel) (pa_cons (pe_call (ok_is_polynomial T) (hr.mono (by decide)) (by rfl) T.is_polynomial.g T.is_polynomial.F.kp T.is_polynomial.b .nil pass0 (pa_cons (pv 12) pa_nil)) pa_nil)) (pe_callB call_repr_bl (by rfl) T.m_repr (by decide +kernel) (pa_cons (pe_cmpR (op_eqD hr.units) (pv 12) (pv 13) (nomark _)) pa_nil)) (nomark _))))))
        (pss_one (ps_ret pe_bl))
        pss_nil)
      (pss_cons (ps_expr (pe_bm PySem.F.plainAttrs_list PySem.F.slot_list_append PySem.F.type_list_append mt_append (pv 10) (pa_cons pe_int pa_nil)))
      (pss_one (ps_ret (pe_and (pe_cmpR (op_eqD hr.units) (pe_call (ok_trimmed T) (hr.mono (by decide)) (by rfl) T.trimmed.g T.trimmed.F.kp T.trimmed.b .nil pass0 (pa_cons (pv 12) pa_nil)) (pv 13) (nomark _)) (pe_and (pe_cmpR op_is_bl (pe_call (ok_is_polynomial T) (hr.mono (by decide)) (by rfl) T.is_polynomial.g T.is_polynomial.F.kp T.is_polynomial.b .nil pass0 (pa_cons (pv 2) pa_nil)) pe_bl (nomark _)) (pe_one (pe_cmpR (op_eqD hr.units) (pe_tup (pa_cons (pv 2) (pa_cons (pv 3) pa_nil))) (pv 4) (nomark _))))))))))))))))))))))))), ?_⟩
    -- draws, one, two
    refine ⟨.ref a, rfl, a, sc, rfl, hS, hl, fun H1 dr ds s1 n1 i1 d1 => ?_⟩
    refine ⟨.ref dr, rfl, dr, ds, 0, rfl, i1, by decide, fun H2 o ns s2 n2 i2 c2 b2 l2 => ?_⟩
    refine ⟨.ref dr, rfl, dr, ds, 14, rfl, i1.same s2, by decide, fun H3 t ms s3 n3 i3 c3 b3 l3 => ?_⟩
    have i2 := i2.same s3
    have i1 := (i1.same s2).same s3
    -- kept
    refine ⟨.ref o, rfl, o, _, rfl, .inl i2.sq, fun k1 nk1 => ⟨.ref t, rfl, t, _, rfl, .inl (il_ne i3 nk1).sq, fun k2 nk2 => ⟨Nat.le_of_lt (small' (by show 2 < 60000; decide)), fun kt nkt => ?_⟩⟩⟩
    obtain ⟨H4, e4⟩ : ∃ H4, H4 = upd (upd (upd H3 k1 (.lst (ns.map V.int))) k2 (.lst (ms.map V.int))) kt (.tup [.ref k1, .ref k2]) := ⟨_, rfl⟩
    rw [← e4]
    have s4 : Same H3 H4 := e4 ▸ ((same_upd nk1).trans (same_upd nk2)).trans (same_upd nkt)
    have hkt : H4 kt = some (.tup [.ref k1, .ref k2]) := e4 ▸ upd_same
    have ik1 : IL H4 k1 ns := e4 ▸ il_ne (il_ne il_upd nk2) nkt
    have ik2 : IL H4 k2 ms := e4 ▸ il_ne il_upd nkt
    clear e4
    have i1 := i1.same s4
    have i2 := i2.same s4
    have i3 := i3.same s4
    -- number, power, at
    refine ⟨.ref dr, rfl, dr, ds, 28, rfl, i1, by decide, fun c hc => ?_⟩
    refine ⟨.ref dr, rfl, dr, ds, 30, 41, rfl, i1, by decide, by decide, fun pw hp0 hp1 => ?_⟩
    refine ⟨.ref dr, rfl, dr, ds, 31, 2001, rfl, i1, by decide, by decide, fun at0 ha0 ha1 => ⟨_, _, rfl, rfl, ?_⟩⟩
    have hat : (at0 - 1000).natAbs ≤ 1000 := by omega
    -- due
    refine ⟨.ref o, rfl, .ref t, rfl, o, t, ns, ms, rfl, i2, i3, by omega, by omega, fun H5 d1 s5 n5 j1 => ?_⟩
    have i2o := i2
    have i3o := i3
    have i2 := i2.same s5
    have i3 := i3.same s5
    refine ⟨.ref o, rfl, .ref t, rfl, o, t, ns, ms, rfl, i2, i3, by omega, by omega, b2, b3, fun H6 d2 s6 n6 j2 => ?_⟩
    have i2 := i2.same s6
    have i3 := i3.same s6
    have j1 := j1.same s6
    refine ⟨.ref o, rfl, o, rfl, ⟨_, i2.sq⟩, fun D1 nD1 => ?_⟩
    refine lc_rel (a := o) (xs := ns.map V.int) (fun j y => y = .int (c * cf ns j)) nD1 i2.sq (by rw [List.length_map]; exact small' (by omega)) (fun j x H' Q' hx sm hq => ?_) (fun H7 ys s7 hy hn hrr => ?_)
    · obtain ⟨hj, rfl⟩ := map_get hx
      exact ⟨_, rfl, _, rfl, _, _, rfl, rfl, wide100 hc (b2 j), hq _ rfl⟩
    rw [List.length_map] at hn
    have e := ints_of (fun j => c * cf ns j) hn hrr
    rw [scale_range] at e
    have i2 := i2.same s7
    have i3 := i3.same s7
    have j1 := j1.same s7
    have j2 := j2.same s7
    have ek : (!decide (V.int c = V.int 0)) = decide (c ≠ 0) := by
      by_cases h0 : c = 0
      · rw [h0]; rfl
      · rw [decide_eq_false (fun z => h0 (V.int.inj z)), decide_eq_true h0]; rfl
    refine ⟨_, rfl, rfl, .inr ⟨_, rfl, ?_⟩⟩
    rw [ek]
    refine ⟨D1, _, _, rfl, rfl, hy, by split <;> decide, by split <;> decide, ?_, fun d3 n7 => ?_⟩
    · rw [hn]
      exact small (Nat.le_trans (Nat.mul_le_mul_left _ (show _ ≤ 1 by split <;> decide)) (by omega))
    have e3 : (List.replicate (if decide (c ≠ 0) then (1 : Int) else 0).toNat ys).flatten = (pscale c ns).map V.int := by
      rw [rep_flat, e]
      unfold pscale
      by_cases h0 : c = 0
      · rw [h0]; rfl
      · rw [decide_eq_true h0, if_neg h0]; rfl
    rw [e3]
    have s8 := same_upd (o := .lst ((pscale c ns).map V.int)) n7
    have i2 := i2.same s8
    have i3 := i3.same s8
    have j1 := j1.same s8
    have j2 := j2.same s8
    have j3 : IL (upd H7 d3 (.lst ((pscale c ns).map V.int))) d3 (pscale c ns) := il_upd
    have s38 := (((s5.trans s6).trans s7).trans s8)
    generalize upd H7 d3 (.lst ((pscale c ns).map V.int)) = H8 at *
    refine ⟨Nat.le_of_lt (small' (by show 3 < 60000; decide)), fun du ndu => ?_⟩
    have x1 : d1 ≠ du := ne_of_none j1 ndu
    have x2 : d2 ≠ du := ne_of_none j2 ndu
    have x3 : d3 ≠ du := ne_of_none j3 ndu
    have s9 := same_upd (o := .lst [V.ref d1, V.ref d2, V.ref d3]) ndu
    have i2 := i2.same s9
    have i3 := i3.same s9
    have j1 := j1.same s9
    have j2 := j2.same s9
    have j3 := j3.same s9
    have hdu : (upd H8 du (.lst [V.ref d1, V.ref d2, V.ref d3])) du = some (.lst [V.ref d1, V.ref d2, V.ref d3]) := upd_same
    have ndu4 : H4 du = none := s38.free ndu
    have s49 := s38.trans s9
    generalize upd H8 du (.lst [V.ref d1, V.ref d2, V.ref d3]) = H9 at *
    -- due.append(..)
    refine ⟨.ref du, rfl, .inl ⟨rfl, _, SqL.of hdu⟩, _, rfl, .ref o, rfl, Nat.zero_le _, fun z nz => ⟨_, _, (il_ne i2 nz).dp, (il_upd (ns := [])).dp, shaped_dI _, shaped_dI _, .inr ⟨_, rfl, _, _, rfl, rfl, wideP hp0 hp1, ?_⟩⟩⟩
    rw [eqv_dI]
    have s10 := same_upd (o := .lst []) nz
    have i2 := i2.same s10
    have i3 := i3.same s10
    have j1 := j1.same s10
    have j2 := j2.same s10
    have j3 := j3.same s10
    have hdu := s10 _ _ hdu
    have s49 := s49.trans s10
    generalize upd H9 z (.lst []) = H10 at *
    obtain ⟨pk, hpk, epk⟩ : ∃ pk : Nat, pk = (if ns = [] then 0 else pw.toNat) ∧ pw * (if (!decide (ns = [])) = true then 1 else 0) = (pk : Int) := by
      refine ⟨_, rfl, ?_⟩
      by_cases e : ns = []
      · rw [decide_eq_true e, if_pos e]; simp
      · rw [decide_eq_false e, if_neg e]; simp; omega
    have lpk : pk ≤ 41 := by rw [hpk]; split <;> omega
    refine ⟨(pk : Int), congrArg (fun z => [V.int z]) epk, by omega, by omega, fun D nD => ?_⟩
    refine lc_relR (n := (pk : Int).toNat) (fun j y => y = .int 0) nD (small' (by omega)) (fun j H' Q' hj sm hq => hq _ rfl) (fun H11 zs s11 hz hnz hrz => ?_)
    rw [Int.toNat_natCast] at hnz
    have ez := ints_of (fun _ => 0) hnz hrz
    rw [zeros_of] at ez
    have i2 := i2.same s11
    have i3 := i3.same s11
    have j1 := j1.same s11
    have j2 := j2.same s11
    have j3 := j3.same s11
    have hdu := s11 _ _ hdu
    have s49 := s49.trans s11
    refine ⟨.ref o, rfl, D, o, _, _, rfl, rfl, hz, i2, by rw [hnz, List.length_map]; exact small (by omega), fun d4 n11 => ?_⟩
    have e4 : zs ++ ns.map V.int = (praise pw.toNat ns).map V.int := by
      rw [ez, ← List.map_append, hpk]
      unfold praise
      by_cases e : ns = []
      · rw [if_pos e, if_pos e, e]; rfl
      · rw [if_neg e, if_neg e]
    rw [e4]
    have x4 : d4 ≠ du := (ne_of_none hdu n11).symm
    have s12 := same_upd (o := .lst ((praise pw.toNat ns).map V.int)) n11
    have i2 := i2.same s12
    have i3 := i3.same s12
    have j1 := j1.same s12
    have j2 := j2.same s12
    have j3 := j3.same s12
    have j4 : IL (upd H11 d4 (.lst ((praise pw.toNat ns).map V.int))) d4 (praise pw.toNat ns) := il_upd
    have hdu := s12 _ _ hdu
    have s49 := s49.trans s12
    generalize upd H11 d4 (.lst ((praise pw.toNat ns).map V.int)) = H12 at *
    refine ⟨du, _, _, rfl, rfl, hdu, small' (by show 3 < 60000; decide), ?_⟩
    have s4 : Same H4 (upd H12 du (.lst ([V.ref d1, V.ref d2, V.ref d3] ++ [V.ref d4]))) := same_over s49 ndu4
    have hdu : (upd H12 du (.lst ([V.ref d1, V.ref d2, V.ref d3] ++ [V.ref d4]))) du = some (.lst [V.ref d1, V.ref d2, V.ref d3, V.ref d4]) := upd_same
    have j1 := il_upd_ne (o := .lst ([V.ref d1, V.ref d2, V.ref d3] ++ [V.ref d4])) j1 x1
    have j2 := il_upd_ne (o := .lst ([V.ref d1, V.ref d2, V.ref d3] ++ [V.ref d4])) j2 x2
    have j3 := il_upd_ne (o := .lst ([V.ref d1, V.ref d2, V.ref d3] ++ [V.ref d4])) j3 x3
    have j4 := il_upd_ne (o := .lst ([V.ref d1, V.ref d2, V.ref d3] ++ [V.ref d4])) j4 x4
    have i2 := il_upd_ne (o := .lst ([V.ref d1, V.ref d2, V.ref d3] ++ [V.ref d4])) i2 (ne_of_none i2o ndu4)
    have i3 := il_upd_ne (o := .lst ([V.ref d1, V.ref d2, V.ref d3] ++ [V.ref d4])) i3 (ne_of_none i3o ndu4)
    have i1 := i1.same s4
    have ik1 := ik1.same s4
    have ik2 := ik2.same s4
    have hkt := s4 _ _ hkt
    clear s49 hy hz hn e e3 e4 ez hrr hrz ek s5 s6 s7 s8 s9 s10 s11 s12 s38
    generalize upd H12 du (.lst ([V.ref d1, V.ref d2, V.ref d3] ++ [V.ref d4])) = B at *
    have lp := padd_len ns ms
    have lm : (pmul ns ms).length ≤ 82 := Nat.le_trans (trim_len _) (by rw [List.length_map, List.length_range]; omega)
    have ls : (pscale c ns).length ≤ 41 := by
      unfold pscale
      split
      · exact Nat.zero_le _
      · rw [List.length_map]; exact l2
    have lr : (praise pw.toNat ns).length ≤ 82 := by
      unfold praise
      split
      · exact Nat.zero_le _
      · rw [List.length_append, List.length_replicate]; omega
    -- the two turns
    refine ⟨2, rfl, by decide, by decide, ?_⟩
    refine for_range (n := 2) (lo := 0) (fun i σ H' => Same B H' ∧ ∃ v9 v10 v11, σ = [some (.ref a), some (.ref dr), some (.ref o), some (.ref t), some (.ref kt), some (.int c), some (.int pw), some (.int (at0 - 1000)), some (.ref du), v9, v10, v11, none, none, none, none]) ⟨Same.refl _, none, none, none, rfl⟩ (fun i σ H' hi hP => ?_) (fun σ H' hP => ?_)
    · obtain ⟨sm, v9, v10, v11, rfl⟩ := hP
      refine ⟨.ref o, rfl, .ref t, rfl, o, t, ns, ms, rfl, i2.same sm, i3.same sm, by omega, by omega, fun Ha q1 sa na ja => ?_⟩
      have nq1 := sm.free na
      have sm := sm.trans sa
      refine ⟨.ref o, rfl, .ref t, rfl, o, t, ns, ms, rfl, i2.same sm, i3.same sm, by omega, by omega, b2, b3, fun Hb q2 sb nb jb => ?_⟩
      have nq2 := sm.free nb
      have sm := sm.trans sb
      refine ⟨.ref o, rfl, _, rfl, o, ns, c, rfl, i2.same sm, by omega, b2, hc, fun Hc q3 scc nc jc => ?_⟩
      have nq3 := sm.free nc
      have sm := sm.trans scc
      refine ⟨.ref o, rfl, .int pw, rfl, o, ns, pw.toNat, by show [V.ref o, V.int pw] = _; rw [Int.toNat_of_nonneg hp0], i2.same sm, by omega, by omega, fun Hd q4 sd nd jd => ?_⟩
      have nq4 := sm.free nd
      have sm := sm.trans sd
      have ja := ((ja.same sb).same scc).same sd
      have jb := (jb.same scc).same sd
      have jc := jc.same sd
      refine ⟨Nat.le_of_lt (small' (by show 4 < 60000; decide)), fun tl ntl => ?_⟩
      have st := same_upd (o := .lst [V.ref q1, V.ref q2, V.ref q3, V.ref q4]) ntl
      have ja := ja.same st
      have jb := jb.same st
      have jc := jc.same st
      have jd := jd.same st
      have htl : (upd Hd tl (.lst [V.ref q1, V.ref q2, V.ref q3, V.ref q4])) tl = some (.lst [V.ref q1, V.ref q2, V.ref q3, V.ref q4]) := upd_same
      have sm := sm.trans st
      clear sa sb scc sd st na nb nc nd
      generalize upd Hd tl (.lst [V.ref q1, V.ref q2, V.ref q3, V.ref q4]) = He at *
      refine ⟨_, rfl, _, rfl, .list ([padd ns ms, pmul ns ms, pscale c ns, praise pw.toNat ns].map dI), .list ([padd ns ms, pmul ns ms, pscale c ns, praise pw.toNat ns].map dI), .lst (SqL.of htl) (.cons ja.dp (.cons jb.dp (.cons jc.dp (.cons jd.dp .nil)))),
        .lst (SqL.of (sm _ _ hdu)) (.cons (j1.same sm).dp (.cons (j2.same sm).dp (.cons (j3.same sm).dp (.cons (j4.same sm).dp .nil)))), shaped_LL _, shaped_LL _, _, rfl, ?_⟩
      rw [eqv_LL]
      refine iteF ?_
      have yo : ∀ x ∈ [V.ref q1, V.ref q2, V.ref q3, V.ref q4], ∃ (q : Addr) (r : List Int), x = .ref q ∧ B q = none ∧ IL He q r ∧ r.length ≤ 900 ∧ Can r := by
        intro x hx
        simp only [List.mem_cons, List.not_mem_nil, or_false] at hx
        rcases hx with rfl | rfl | rfl | rfl
        · exact ⟨q1, _, rfl, nq1, ja, by omega, can_padd _ _⟩
        · exact ⟨q2, _, rfl, nq2, jb, by omega, can_pmul _ _⟩
        · exact ⟨q3, _, rfl, nq3, jc, by omega, can_pscale c2⟩
        · exact ⟨q4, _, rfl, nq4, jd, by omega, can_praise c2⟩
      refine ⟨_, rfl, tl, rfl, ⟨_, SqL.of htl⟩, fun D nD => ?_⟩
      refine lc_relS (a := tl) (xs := [V.ref q1, V.ref q2, V.ref q3, V.ref q4]) (fun j y => y = .bl true) nD (SqL.of htl) (small' (by show 4 < 60000; decide)) (fun j x H' Q' hx s' hq => ?_) (fun Hf bs sf hbs hnb hrb => ?_)
      · obtain ⟨q, r, rfl, _, hq', hl', hc'⟩ := yo x (List.mem_of_getElem? hx)
        refine ⟨_, rfl, q, r, rfl, hq'.same s', by omega, fun H4 s4 => hq _ _ s4 ?_⟩
        rw [decide_eq_true hc']
      refine ⟨D, List.replicate 4 true, rfl, SqL.of (by rw [hbs, bls_of hnb hrb]; rfl), _, rfl, iteF ?_⟩
      have smf := sm.trans sf
      refine ⟨_, rfl, _, rfl, Nat.le_of_lt (small' (by show 2 < 60000; decide)), fun pt npt => ?_⟩
      have sp := same_upd (o := .tup [V.ref o, V.ref t]) npt
      have smp := smf.trans sp
      refine ⟨_, rfl, .tuple ([ns, ms].map dI), .tuple ([ns, ms].map dI), .tup (SqT.of upd_same) (.cons (i2.same smp).dp (.cons (i3.same smp).dp .nil)), .tup (SqT.of (smp _ _ hkt)) (.cons (ik1.same smp).dp (.cons (ik2.same smp).dp .nil)), shaped_LT _, shaped_LT _, _, rfl, ?_⟩
      rw [eqv_LT]
      refine iteF ?_
      -- for each in told: each.append(0)
      have htl := (sf.trans sp) _ _ htl
      refine ⟨_, rfl, tl, rfl, ⟨_, SqL.of htl⟩, ?_⟩
      refine for_list (xs := [V.ref q1, V.ref q2, V.ref q3, V.ref q4]) (fun j σ H' => Same B H' ∧ (∃ v11, σ = [some (.ref a), some (.ref dr), some (.ref o), some (.ref t), some (.ref kt), some (.int c), some (.int pw), some (.int (at0 - 1000)), some (.ref du), some (.int (0 + (i : Int))), some (.ref tl), v11, none, none, none, none]) ∧ H' tl = some (.lst [V.ref q1, V.ref q2, V.ref q3, V.ref q4]) ∧ ∀ x ∈ [V.ref q1, V.ref q2, V.ref q3, V.ref q4], Young B H' (900 + j) x)
        ⟨smp, ⟨v11, rfl⟩, htl, fun x hx => ?_⟩ (fun j σ H' _ p => SqL.of p.2.2.1) (fun j x σ H' hx hP => ?_) (fun σ H' hP => ?_)
      · obtain ⟨q, r, e1, e2, e3, e4, _⟩ := yo x hx
        exact ⟨q, r, e1, e2, (e3.same sf).same sp, e4⟩
      · obtain ⟨sm', ⟨v11', rfl⟩, htl', hy⟩ := hP
        have hmem := List.mem_of_getElem? hx
        have hj := (List.getElem?_eq_some_iff.mp hx).1
        have hj4 : j < 4 := hj
        obtain ⟨qx, r, rfl, hqn, hqi, hql⟩ := hy x hmem
        refine ⟨_, rfl, .inl ⟨rfl, _, hqi.sq⟩, qx, _, _, rfl, rfl, hqi, by rw [List.length_map]; exact small' (by omega), ?_⟩
        rw [app_ints]
        have hne : tl ≠ qx := ne_of htl' hqi (lst_ne (a := q1) (q := qx) rfl)
        refine ⟨same_over sm' hqn, ⟨_, rfl⟩, by rw [upd_ne hne]; exact htl', fun x' hx' => ?_⟩
        obtain ⟨q', r', e1, e2, e3, e4⟩ := hy x' hx'
        by_cases hq' : q' = qx
        · subst hq'
          exact ⟨q', r ++ [0], e1, e2, il_upd, by rw [List.length_append]; show r.length + 1 ≤ _; omega⟩
        · exact ⟨q', r', e1, e2, il_upd_ne e3 hq', by omega⟩
      · exact ⟨hP.1, _, _, _, hP.2.1.choose_spec⟩
    · obtain ⟨sm, v9, v10, v11, rfl⟩ := hP
      have i1 := i1.same sm
      have i2 := i2.same sm
      have i3 := i3.same sm
      have ik1 := ik1.same sm
      have ik2 := ik2.same sm
      have hkt := sm _ _ hkt
      clear hdu j1 j2 j3 j4 sm i2o i3o s4 x1 x2 x3 x4 n1 n2 n3 n5 n6 n7 n11 nk1 nk2 nkt ndu ndu4
      -- degrees
      refine ⟨.ref o, rfl, o, ns, rfl, i2, _, rfl, true, rfl, iteF ?_⟩
      refine ⟨.ref o, rfl, o, ns, rfl, i2, .ref o, rfl, o, _, rfl, .inl i2.sq, _, _, rfl, rfl, rfl, _, rfl, iteNS (by rw [List.length_map]) ?_⟩
      refine ⟨.ref t, rfl, t, ms, rfl, i3, .ref t, rfl, t, _, rfl, .inl i3.sq, _, _, rfl, rfl, rfl, _, rfl, iteNS (by rw [List.length_map]) ?_⟩
      -- values
      refine ⟨.ref o, rfl, _, rfl, o, ns, _, rfl, i2, hat, .ref o, rfl, _, rfl, o, ns, _, rfl, i2, by omega, b2, hat, rfl, _, rfl, iteNS rfl ?_⟩
      refine ⟨.ref t, rfl, _, rfl, _, rfl, t, ms, _, rfl, i3, by omega, .ref t, rfl, _, rfl, _, rfl, t, ms, _, rfl, i3, by omega, b3, by omega, rfl, _, rfl, iteNS rfl ?_⟩
      -- loose
      refine ⟨.ref o, rfl, .ref dr, rfl, dr, ds, 32, 4, rfl, i1, by decide, by decide, fun r hr0 hr1 => ⟨r, rfl, by omega, by omega, fun D nD => ?_⟩⟩
      refine lc_relR (n := r.toNat) (fun j y => y = .int 0) nD (small' (by omega)) (fun j H' Q' hj sm hq => hq _ rfl) (fun Ha zs sa hz hnz hrz => ?_)
      have ez := ints_of (fun _ => 0) hnz hrz
      rw [zeros_of] at ez
      have i1 := i1.same sa
      have i2 := i2.same sa
      have i3 := i3.same sa
      have ik1 := ik1.same sa
      have ik2 := ik2.same sa
      have hkt := sa _ _ hkt
      refine ⟨o, D, _, _, rfl, rfl, i2, hz, by rw [hnz, List.length_map]; exact small (by omega), fun p1 np1 => ?_⟩
      rw [ez, ← List.map_append]
      have hl1 : (ns ++ List.replicate r.toNat 0).length ≤ 45 := by rw [List.length_append, List.length_replicate]; omega
      generalize ns ++ List.replicate r.toNat 0 = l1 at *
      have sb := same_upd (o := .lst (l1.map V.int)) np1
      have i1 := i1.same sb
      have i2 := i2.same sb
      have i3 := i3.same sb
      have ik1 := ik1.same sb
      have ik2 := ik2.same sb
      have hkt := sb _ _ hkt
      have ip1 : IL (upd Ha p1 (.lst (l1.map V.int))) p1 l1 := il_upd
      generalize upd Ha p1 (.lst (l1.map V.int)) = Hb at *
      refine ⟨.ref dr, rfl, dr, ds, 33, 3, rfl, i1, by decide, by decide, fun v hv0 hv1 => ⟨_, _, rfl, rfl, Nat.le_of_lt (small' (by show 1 < 60000; decide)), fun p2 np2 => ?_⟩⟩
      have sc' := same_upd (o := .lst [V.int (v - 1)]) np2
      have i1 := i1.same sc'
      have i2 := i2.same sc'
      have i3 := i3.same sc'
      have ik1 := ik1.same sc'
      have ik2 := ik2.same sc'
      have ip1 := ip1.same sc'
      have hkt := sc' _ _ hkt
      have ip2 : IL (upd Hb p2 (.lst [V.int (v - 1)])) p2 [v - 1] := upd_same
      generalize upd Hb p2 (.lst [V.int (v - 1)]) = Hc at *
      refine ⟨.ref dr, rfl, dr, ds, 34, 2, rfl, i1, by decide, by decide, fun w' hw0 hw1 => ⟨w', rfl, p2, _, rfl, ip2.sq, fun p3 np3 => ?_⟩⟩
      obtain ⟨W, hW, eW⟩ : ∃ W : Nat, W ≤ 1 ∧ w' = (W : Int) := ⟨w'.toNat, by omega, by omega⟩
      subst eW
      rw [cut_to (ns := [v - 1]) (L := W) hW]
      have hl2 : ([v - 1].take W).length ≤ 1 := by rw [List.length_take]; exact Nat.min_le_right _ _
      generalize [v - 1].take W = l2' at *
      have sd := same_upd (o := .lst (l2'.map V.int)) np3
      have i1 := i1.same sd
      have i2 := i2.same sd
      have i3 := i3.same sd
      have ik1 := ik1.same sd
      have ik2 := ik2.same sd
      have ip1 := ip1.same sd
      have hkt := sd _ _ hkt
      have ip3 : IL (upd Hc p3 (.lst (l2'.map V.int))) p3 l2' := il_upd
      generalize upd Hc p3 (.lst (l2'.map V.int)) = Hd at *
      refine ⟨p1, p3, _, _, rfl, rfl, ip1, ip3, by rw [List.length_map, List.length_map]; exact small (by omega), fun p4 np4 => ?_⟩
      rw [← List.map_append]
      have hl3 : (l1 ++ l2').length ≤ 46 := by rw [List.length_append]; omega
      generalize l1 ++ l2' = l3 at *
      have se := same_upd (o := .lst (l3.map V.int)) np4
      have i1 := i1.same se
      have i2 := i2.same se
      have i3 := i3.same se
      have ik1 := ik1.same se
      have ik2 := ik2.same se
      have hkt := se _ _ hkt
      have ip4 : IL (upd Hd p4 (.lst (l3.map V.int))) p4 l3 := il_upd
      generalize upd Hd p4 (.lst (l3.map V.int)) = He at *
      refine ⟨.ref p4, rfl, .ref dr, rfl, dr, ds, 35, 3, rfl, i1, by decide, by decide, fun r2 hr20 hr21 => ⟨r2, rfl, by omega, by omega, fun D2 nD2 => ?_⟩⟩
      refine lc_relR (n := r2.toNat) (fun j y => y = .int 0) nD2 (small' (by omega)) (fun j H' Q' hj sm hq => hq _ rfl) (fun Hf zs2 sf hz2 hnz2 hrz2 => ?_)
      have ez2 := ints_of (fun _ => 0) hnz2 hrz2
      rw [zeros_of] at ez2
      have i1 := i1.same sf
      have i2 := i2.same sf
      have i3 := i3.same sf
      have ik1 := ik1.same sf
      have ik2 := ik2.same sf
      have ip4 := ip4.same sf
      have hkt := sf _ _ hkt
      refine ⟨p4, D2, _, _, rfl, rfl, ip4, hz2, by rw [hnz2, List.length_map]; exact small (by omega), fun p5 np5 => ?_⟩
      rw [ez2, ← List.map_append]
      have hl4 : (l3 ++ List.replicate r2.toNat 0).length ≤ 50 := by rw [List.length_append, List.length_replicate]; omega
      generalize l3 ++ List.replicate r2.toNat 0 = lo at *
      have sg := same_upd (o := .lst (lo.map V.int)) np5
      have i2 := i2.same sg
      have i3 := i3.same sg
      have ik1 := ik1.same sg
      have ik2 := ik2.same sg
      have hkt := sg _ _ hkt
      have ip5 : IL (upd Hf p5 (.lst (lo.map V.int))) p5 lo := il_upd
      generalize upd Hf p5 (.lst (lo.map V.int)) = Hg at *
      -- short, told
      refine ⟨.ref p5, rfl, Nat.zero_le _, fun z nz => ⟨p5, z, lo, [], rfl, il_ne ip5 nz, il_upd (ns := []), by omega, Nat.zero_le _, fun Hh sh' sh nsh ish => ?_⟩⟩
      have sh := (same_upd (o := .lst []) nz).trans sh
      rw [padd_nil] at ish
      have i2 := i2.same sh
      have i3 := i3.same sh
      have ik1 := ik1.same sh
      have ik2 := ik2.same sh
      have ip5 := ip5.same sh
      have hkt := sh _ _ hkt
      refine ⟨.ref p5, rfl, p5, lo, rfl, ip5, by omega, fun Hi tl si ntl itl => ?_⟩
      have m2 : o ≠ tl := ne_of_none i2 ntl
      have m3 : t ≠ tl := ne_of_none i3 ntl
      have mk1 : k1 ≠ tl := ne_of_none ik1 ntl
      have mk2 : k2 ≠ tl := ne_of_none ik2 ntl
      have m5 : p5 ≠ tl := ne_of_none ip5 ntl
      have msh : sh' ≠ tl := ne_of_none ish ntl
      have mkt : kt ≠ tl := ne_of_none hkt ntl
      have i2 := i2.same si
      have i3 := i3.same si
      have ik1 := ik1.same si
      have ik2 := ik2.same si
      have ip5 := ip5.same si
      have ish := ish.same si
      have hkt := si _ _ hkt
      have lt := trim_len lo
      refine ⟨.ref tl, rfl, tl, trim lo, rfl, itl, by omega, fun Hj sj => ⟨_, rfl, ?_⟩⟩
      rw [decide_eq_true (can_trim lo)]
      refine iteF ?_
      refine ⟨_, rfl, _, rfl, dI (trim lo), dI (trim lo), (itl.same sj).dp, (ish.same sj).dp, shaped_dI _, shaped_dI _, _, rfl, ?_⟩
      rw [eqv_dI, decide_eq_true rfl]
      refine iteF ?_
      refine ⟨.ref p5, rfl, p5, lo, rfl, ip5.same sj, fun Hk sk => ⟨_, rfl, _, rfl, _, rfl, dI lo, dI (trim lo), ((ip5.same sj).same sk).dp, ((ish.same sj).same sk).dp, shaped_dI _, shaped_dI _, ⟨_, rfl, rfl, _, rfl, ?_⟩⟩⟩
      rw [eqv_dI]
      have eb : decide (Can lo) = decide (lo = trim lo) := by
        by_cases hc : Can lo
        · rw [decide_eq_true hc, decide_eq_true (trim_can hc).symm]
        · rw [decide_eq_false hc, decide_eq_false (fun z => hc (can_iff.mpr z.symm))]
      rw [eb]
      refine iteNS rfl ?_
      have sk := sj.trans sk
      have itl := itl.same sk
      refine ⟨.ref tl, rfl, .inl ⟨rfl, _, itl.sq⟩, tl, _, _, rfl, rfl, itl, by rw [List.length_map]; exact small' (by omega), ?_⟩
      have i2 := il_upd_ne (o := .lst ((trim lo).map V.int ++ [V.int 5])) (i2.same sk) m2
      have i3 := il_upd_ne (o := .lst ((trim lo).map V.int ++ [V.int 5])) (i3.same sk) m3
      have ik1 := il_upd_ne (o := .lst ((trim lo).map V.int ++ [V.int 5])) (ik1.same sk) mk1
      have ik2 := il_upd_ne (o := .lst ((trim lo).map V.int ++ [V.int 5])) (ik2.same sk) mk2
      have ip5 := il_upd_ne (o := .lst ((trim lo).map V.int ++ [V.int 5])) (ip5.same sk) m5
      have ish := il_upd_ne (o := .lst ((trim lo).map V.int ++ [V.int 5])) (ish.same sk) msh
      have hkt : upd Hk tl (.lst ((trim lo).map V.int ++ [V.int 5])) kt = _ := (upd_ne mkt).trans (sk _ _ hkt)
      generalize upd Hk tl (.lst ((trim lo).map V.int ++ [V.int 5])) = Hm at *
      refine ⟨.ref p5, rfl, p5, lo, rfl, ip5, by omega, fun Hn r3 sn _ ir => ⟨_, rfl, dI (trim lo), dI (trim lo), ir.dp, (ish.same sn).dp, shaped_dI _, shaped_dI _, _, rfl, ?_⟩⟩
      rw [eqv_dI, decide_eq_true rfl]
      refine iteT ⟨.ref o, rfl, o, ns, rfl, i2.same sn, fun Ho so => ⟨_, _, rfl, rfl, _, rfl, ?_⟩⟩
      rw [decide_eq_true c2]
      refine iteT ?_
      have so := sn.trans so
      refine ⟨_, rfl, _, rfl, Nat.le_of_lt (small' (by show 2 < 60000; decide)), fun pt npt => ?_⟩
      have sp := so.trans (same_upd (o := .tup [V.ref o, V.ref t]) npt)
      refine ⟨_, rfl, .tuple ([ns, ms].map dI), .tuple ([ns, ms].map dI), .tup (SqT.of upd_same) (.cons (i2.same sp).dp (.cons (i3.same sp).dp .nil)), .tup (SqT.of (sp _ _ hkt)) (.cons (ik1.same sp).dp (.cons (ik2.same sp).dp .nil)), shaped_LT _, shaped_LT _, ?_⟩
      rw [eqv_LT]
      exact q _
end
section
/-- the facts of the text, from what stands behind the top -/
theorem all_mk {l : PySem.W.OpenLaw} {w : World} {K : PySem.W.Frag} {h : Heap} {mg : Str → Option Value} {fa : Addr} (X : K.In h) (G : h.Ns mainGlobals mg) (hfa : mg "law" = some (.ref fa))
    {f0 : Addr} {od0 an0 : Option Addr} {sl0 : Array (Option Value)} {oc0 kV0 dc0 pm0 cd0 ct0 : Value}
    {f1 : Addr} {od1 an1 : Option Addr} {sl1 : Array (Option Value)} {oc1 kV1 dc1 pm1 cd1 ct1 : Value}
    {f2 : Addr} {od2 an2 : Option Addr} {sl2 : Array (Option Value)} {oc2 kV2 dc2 pm2 cd2 ct2 : Value}
    {f3 : Addr} {od3 an3 : Option Addr} {sl3 : Array (Option Value)} {oc3 kV3 dc3 pm3 cd3 ct3 : Value}
    {f4 : Addr} {od4 an4 : Option Addr} {sl4 : Array (Option Value)} {oc4 kV4 dc4 pm4 cd4 ct4 : Value}
    {f5 : Addr} {od5 an5 : Option Addr} {sl5 : Array (Option Value)} {oc5 kV5 dc5 pm5 cd5 ct5 : Value}
    {f6 : Addr} {od6 an6 : Option Addr} {sl6 : Array (Option Value)} {oc6 kV6 dc6 pm6 cd6 ct6 : Value}
    {f7 : Addr} {od7 an7 : Option Addr} {sl7 : Array (Option Value)} {oc7 kV7 dc7 pm7 cd7 ct7 : Value}
    {f8 : Addr} {od8 an8 : Option Addr} {sl8 : Array (Option Value)} {oc8 kV8 dc8 pm8 cd8 ct8 : Value}
    {f9 : Addr} {od9 an9 : Option Addr} {sl9 : Array (Option Value)} {oc9 kV9 dc9 pm9 cd9 ct9 : Value}
    {f10 : Addr} {od10 an10 : Option Addr} {sl10 : Array (Option Value)} {oc10 kV10 dc10 pm10 cd10 ct10 : Value}
    {f11 : Addr} {od11 an11 : Option Addr} {sl11 : Array (Option Value)} {oc11 kV11 dc11 pm11 cd11 ct11 : Value}
    {f12 : Addr} {od12 an12 : Option Addr} {sl12 : Array (Option Value)} {oc12 kV12 dc12 pm12 cd12 ct12 : Value}
    {f13 : Addr} {od13 an13 : Option Addr} {sl13 : Array (Option Value)} {oc13 kV13 dc13 pm13 cd13 ct13 : Value}
    {f14 : Addr} {od14 an14 : Option Addr} {sl14 : Array (Option Value)} {oc14 kV14 dc14 pm14 cd14 ct14 : Value}
    {f15 : Addr} {od15 an15 : Option Addr} {sl15 : Array (Option Value)} {oc15 kV15 dc15 pm15 cd15 ct15 : Value}
    {f16 : Addr} {od16 an16 : Option Addr} {sl16 : Array (Option Value)} {oc16 kV16 dc16 pm16 cd16 ct16 : Value}
    {f17 : Addr} {od17 an17 : Option Addr} {sl17 : Array (Option Value)} {oc17 kV17 dc17 pm17 cd17 ct17 : Value}
    {f18 : Addr} {od18 an18 : Option Addr} {sl18 : Array (Option Value)} {oc18 kV18 dc18 pm18 cd18 ct18 : Value}
    (a0 : PySem.W.nsIn K mainGlobals "is_polynomial" = some (some (.ref f0))) (l0 : K.lookup f0 = some ⟨oc0, od0, .func (PySem.W.fnOf "is_polynomial" "is_polynomial" (defArgs s_is_polynomial) (defBody s_is_polynomial) (defScope s_is_polynomial) .none kV0 dc0 pm0 an0 cd0 ct0), sl0⟩) (c0 : PySem.W.codeIn K cd0 "is_polynomial" = true) (k0 : PySem.W.keepIn K (.ref f0) = true)
    (a1 : PySem.W.nsIn K mainGlobals "trimmed" = some (some (.ref f1))) (l1 : K.lookup f1 = some ⟨oc1, od1, .func (PySem.W.fnOf "trimmed" "trimmed" (defArgs s_trimmed) (defBody s_trimmed) (defScope s_trimmed) .none kV1 dc1 pm1 an1 cd1 ct1), sl1⟩) (c1 : PySem.W.codeIn K cd1 "trimmed" = true) (k1 : PySem.W.keepIn K (.ref f1) = true)
    (a2 : PySem.W.nsIn K mainGlobals "degree" = some (some (.ref f2))) (l2 : K.lookup f2 = some ⟨oc2, od2, .func (PySem.W.fnOf "degree" "degree" (defArgs s_degree) (defBody s_degree) (defScope s_degree) .none kV2 dc2 pm2 an2 cd2 ct2), sl2⟩) (c2 : PySem.W.codeIn K cd2 "degree" = true) (k2 : PySem.W.keepIn K (.ref f2) = true)
    (a3 : PySem.W.nsIn K mainGlobals "value" = some (some (.ref f3))) (l3 : K.lookup f3 = some ⟨oc3, od3, .func (PySem.W.fnOf "value" "value" (defArgs s_value) (defBody s_value) (defScope s_value) .none kV3 dc3 pm3 an3 cd3 ct3), sl3⟩) (c3 : PySem.W.codeIn K cd3 "value" = true) (k3 : PySem.W.keepIn K (.ref f3) = true)
    (a4 : PySem.W.nsIn K mainGlobals "plus" = some (some (.ref f4))) (l4 : K.lookup f4 = some ⟨oc4, od4, .func (PySem.W.fnOf "plus" "plus" (defArgs s_plus) (defBody s_plus) (defScope s_plus) .none kV4 dc4 pm4 an4 cd4 ct4), sl4⟩) (c4 : PySem.W.codeIn K cd4 "plus" = true) (k4 : PySem.W.keepIn K (.ref f4) = true)
    (a5 : PySem.W.nsIn K mainGlobals "times" = some (some (.ref f5))) (l5 : K.lookup f5 = some ⟨oc5, od5, .func (PySem.W.fnOf "times" "times" (defArgs s_times) (defBody s_times) (defScope s_times) .none kV5 dc5 pm5 an5 cd5 ct5), sl5⟩) (c5 : PySem.W.codeIn K cd5 "times" = true) (k5 : PySem.W.keepIn K (.ref f5) = true)
    (a6 : PySem.W.nsIn K mainGlobals "scaled" = some (some (.ref f6))) (l6 : K.lookup f6 = some ⟨oc6, od6, .func (PySem.W.fnOf "scaled" "scaled" (defArgs s_scaled) (defBody s_scaled) (defScope s_scaled) .none kV6 dc6 pm6 an6 cd6 ct6), sl6⟩) (c6 : PySem.W.codeIn K cd6 "scaled" = true) (k6 : PySem.W.keepIn K (.ref f6) = true)
    (a7 : PySem.W.nsIn K mainGlobals "raised" = some (some (.ref f7))) (l7 : K.lookup f7 = some ⟨oc7, od7, .func (PySem.W.fnOf "raised" "raised" (defArgs s_raised) (defBody s_raised) (defScope s_raised) .none kV7 dc7 pm7 an7 cd7 ct7), sl7⟩) (c7 : PySem.W.codeIn K cd7 "raised" = true) (k7 : PySem.W.keepIn K (.ref f7) = true)
    (a8 : PySem.W.nsIn K mainGlobals "_law_draws" = some (some (.ref f8))) (l8 : K.lookup f8 = some ⟨oc8, od8, .func (PySem.W.fnOf "_law_draws" "_law_draws" (defArgs s_law_draws) (defBody s_law_draws) (defScope s_law_draws) .none kV8 dc8 pm8 an8 cd8 ct8), sl8⟩) (c8 : PySem.W.codeIn K cd8 "_law_draws" = true) (k8 : PySem.W.keepIn K (.ref f8) = true)
    (a9 : PySem.W.nsIn K mainGlobals "_law_at" = some (some (.ref f9))) (l9 : K.lookup f9 = some ⟨oc9, od9, .func (PySem.W.fnOf "_law_at" "_law_at" (defArgs s_law_at) (defBody s_law_at) (defScope s_law_at) .none kV9 dc9 pm9 an9 cd9 ct9), sl9⟩) (c9 : PySem.W.codeIn K cd9 "_law_at" = true) (k9 : PySem.W.keepIn K (.ref f9) = true)
    (a10 : PySem.W.nsIn K mainGlobals "_law_is_integer" = some (some (.ref f10))) (l10 : K.lookup f10 = some ⟨oc10, od10, .func (PySem.W.fnOf "_law_is_integer" "_law_is_integer" (defArgs s_law_is_integer) (defBody s_law_is_integer) (defScope s_law_is_integer) .none kV10 dc10 pm10 an10 cd10 ct10), sl10⟩) (c10 : PySem.W.codeIn K cd10 "_law_is_integer" = true) (k10 : PySem.W.keepIn K (.ref f10) = true)
    (a11 : PySem.W.nsIn K mainGlobals "_law_number" = some (some (.ref f11))) (l11 : K.lookup f11 = some ⟨oc11, od11, .func (PySem.W.fnOf "_law_number" "_law_number" (defArgs s_law_number) (defBody s_law_number) (defScope s_law_number) .none kV11 dc11 pm11 an11 cd11 ct11), sl11⟩) (c11 : PySem.W.codeIn K cd11 "_law_number" = true) (k11 : PySem.W.keepIn K (.ref f11) = true)
    (a12 : PySem.W.nsIn K mainGlobals "_law_poly" = some (some (.ref f12))) (l12 : K.lookup f12 = some ⟨oc12, od12, .func (PySem.W.fnOf "_law_poly" "_law_poly" (defArgs s_law_poly) (defBody s_law_poly) (defScope s_law_poly) .none kV12 dc12 pm12 an12 cd12 ct12), sl12⟩) (c12 : PySem.W.codeIn K cd12 "_law_poly" = true) (k12 : PySem.W.keepIn K (.ref f12) = true)
    (a13 : PySem.W.nsIn K mainGlobals "_law_is_poly" = some (some (.ref f13))) (l13 : K.lookup f13 = some ⟨oc13, od13, .func (PySem.W.fnOf "_law_is_poly" "_law_is_poly" (defArgs s_law_is_poly) (defBody s_law_is_poly) (defScope s_law_is_poly) .none kV13 dc13 pm13 an13 cd13 ct13), sl13⟩) (c13 : PySem.W.codeIn K cd13 "_law_is_poly" = true) (k13 : PySem.W.keepIn K (.ref f13) = true)
    (a14 : PySem.W.nsIn K mainGlobals "_law_plus" = some (some (.ref f14))) (l14 : K.lookup f14 = some ⟨oc14, od14, .func (PySem.W.fnOf "_law_plus" "_law_plus" (defArgs s_law_plus) (defBody s_law_plus) (defScope s_law_plus) .none kV14 dc14 pm14 an14 cd14 ct14), sl14⟩) (c14 : PySem.W.codeIn K cd14 "_law_plus" = true) (k14 : PySem.W.keepIn K (.ref f14) = true)
    (a15 : PySem.W.nsIn K mainGlobals "_law_times" = some (some (.ref f15))) (l15 : K.lookup f15 = some ⟨oc15, od15, .func (PySem.W.fnOf "_law_times" "_law_times" (defArgs s_law_times) (defBody s_law_times) (defScope s_law_times) .none kV15 dc15 pm15 an15 cd15 ct15), sl15⟩) (c15 : PySem.W.codeIn K cd15 "_law_times" = true) (k15 : PySem.W.keepIn K (.ref f15) = true)
    (a16 : PySem.W.nsIn K mainGlobals "_law_value" = some (some (.ref f16))) (l16 : K.lookup f16 = some ⟨oc16, od16, .func (PySem.W.fnOf "_law_value" "_law_value" (defArgs s_law_value) (defBody s_law_value) (defScope s_law_value) .none kV16 dc16 pm16 an16 cd16 ct16), sl16⟩) (c16 : PySem.W.codeIn K cd16 "_law_value" = true) (k16 : PySem.W.keepIn K (.ref f16) = true)
    (a17 : PySem.W.nsIn K mainGlobals "_law_drawn" = some (some (.ref f17))) (l17 : K.lookup f17 = some ⟨oc17, od17, .func (PySem.W.fnOf "_law_drawn" "_law_drawn" (defArgs s_law_drawn) (defBody s_law_drawn) (defScope s_law_drawn) .none kV17 dc17 pm17 an17 cd17 ct17), sl17⟩) (c17 : PySem.W.codeIn K cd17 "_law_drawn" = true) (k17 : PySem.W.keepIn K (.ref f17) = true)
    (a18 : PySem.W.nsIn K mainGlobals "law" = some (some (.ref f18))) (l18 : K.lookup f18 = some ⟨oc18, od18, .func (PySem.W.fnOf "law" "law" (defArgs s_law) (defBody s_law) (defScope s_law) .none kV18 dc18 pm18 an18 cd18 ct18), sl18⟩) (c18 : PySem.W.codeIn K cd18 "law" = true) (k18 : PySem.W.keepIn K (.ref f18) = true)
    (z_abs : PySem.W.nsIn K mainGlobals "abs" = some none)
    (z_all : PySem.W.nsIn K mainGlobals "all" = some none)
    (z_bool : PySem.W.nsIn K mainGlobals "bool" = some none)
    (z_enumerate : PySem.W.nsIn K mainGlobals "enumerate" = some none)
    (z_int : PySem.W.nsIn K mainGlobals "int" = some none)
    (z_isinstance : PySem.W.nsIn K mainGlobals "isinstance" = some none)
    (z_len : PySem.W.nsIn K mainGlobals "len" = some none)
    (z_list : PySem.W.nsIn K mainGlobals "list" = some none)
    (z_max : PySem.W.nsIn K mainGlobals "max" = some none)
    (z_min : PySem.W.nsIn K mainGlobals "min" = some none)
    (z_range : PySem.W.nsIn K mainGlobals "range" = some none)
    (z_repr : PySem.W.nsIn K mainGlobals "repr" = some none)
    (z_reversed : PySem.W.nsIn K mainGlobals "reversed" = some none)
    : ∃ fd : FuncData, (∀ (s : Shared) (v : Value), BindsTo s fd ⟨[v], []⟩ [("script", v)]) ∧ ∀ base : Heap, K.In base → base.Ns mainGlobals mg → FnOk l.prog w K mg base CX0 5 fa fd ["script"] (sp_law K) := by
  have e := hfa.symm.trans (PySem.W.mg_of X G a18)
  cases e
  let T : Txt K mg := {
    is_polynomial := ⟨_, _, fun_mk (st := s_is_polynomial) l0 c0 k0, (fun_mk (st := s_is_polynomial) l0 c0 k0).binds (ps := ["numbers"]) (fun _ _ _ _ _ _ us hl => match us, hl with | [_], _ => rfl), PySem.W.mg_of X G a0⟩
    trimmed := ⟨_, _, fun_mk (st := s_trimmed) l1 c1 k1, (fun_mk (st := s_trimmed) l1 c1 k1).binds (ps := ["numbers"]) (fun _ _ _ _ _ _ us hl => match us, hl with | [_], _ => rfl), PySem.W.mg_of X G a1⟩
    degree := ⟨_, _, fun_mk (st := s_degree) l2 c2 k2, (fun_mk (st := s_degree) l2 c2 k2).binds (ps := ["one"]) (fun _ _ _ _ _ _ us hl => match us, hl with | [_], _ => rfl), PySem.W.mg_of X G a2⟩
    value := ⟨_, _, fun_mk (st := s_value) l3 c3 k3, (fun_mk (st := s_value) l3 c3 k3).binds (ps := ["one", "at"]) (fun _ _ _ _ _ _ us hl => match us, hl with | [_, _], _ => rfl), PySem.W.mg_of X G a3⟩
    plus := ⟨_, _, fun_mk (st := s_plus) l4 c4 k4, (fun_mk (st := s_plus) l4 c4 k4).binds (ps := ["one", "two"]) (fun _ _ _ _ _ _ us hl => match us, hl with | [_, _], _ => rfl), PySem.W.mg_of X G a4⟩
    times := ⟨_, _, fun_mk (st := s_times) l5 c5 k5, (fun_mk (st := s_times) l5 c5 k5).binds (ps := ["one", "two"]) (fun _ _ _ _ _ _ us hl => match us, hl with | [_, _], _ => rfl), PySem.W.mg_of X G a5⟩
    scaled := ⟨_, _, fun_mk (st := s_scaled) l6 c6 k6, (fun_mk (st := s_scaled) l6 c6 k6).binds (ps := ["one", "number"]) (fun _ _ _ _ _ _ us hl => match us, hl with | [_, _], _ => rfl), PySem.W.mg_of X G a6⟩
    raised := ⟨_, _, fun_mk (st := s_raised) l7 c7 k7, (fun_mk (st := s_raised) l7 c7 k7).binds (ps := ["one", "k"]) (fun _ _ _ _ _ _ us hl => match us, hl with | [_, _], _ => rfl), PySem.W.mg_of X G a7⟩
    law_draws := ⟨_, _, fun_mk (st := s_law_draws) l8 c8 k8, (fun_mk (st := s_law_draws) l8 c8 k8).binds (ps := ["script"]) (fun _ _ _ _ _ _ us hl => match us, hl with | [_], _ => rfl), PySem.W.mg_of X G a8⟩
    law_at := ⟨_, _, fun_mk (st := s_law_at) l9 c9 k9, (fun_mk (st := s_law_at) l9 c9 k9).binds (ps := ["draws", "k", "many"]) (fun _ _ _ _ _ _ us hl => match us, hl with | [_, _, _], _ => rfl), PySem.W.mg_of X G a9⟩
    law_is_integer := ⟨_, _, fun_mk (st := s_law_is_integer) l10 c10 k10, (fun_mk (st := s_law_is_integer) l10 c10 k10).binds (ps := ["actual"]) (fun _ _ _ _ _ _ us hl => match us, hl with | [_], _ => rfl), PySem.W.mg_of X G a10⟩
    law_number := ⟨_, _, fun_mk (st := s_law_number) l11 c11 k11, (fun_mk (st := s_law_number) l11 c11 k11).binds (ps := ["draws", "k"]) (fun _ _ _ _ _ _ us hl => match us, hl with | [_, _], _ => rfl), PySem.W.mg_of X G a11⟩
    law_poly := ⟨_, _, fun_mk (st := s_law_poly) l12 c12 k12, (fun_mk (st := s_law_poly) l12 c12 k12).binds (ps := ["draws", "k", "most"]) (fun _ _ _ _ _ _ us hl => match us, hl with | [_, _, _], _ => rfl), PySem.W.mg_of X G a12⟩
    law_is_poly := ⟨_, _, fun_mk (st := s_law_is_poly) l13 c13 k13, (fun_mk (st := s_law_is_poly) l13 c13 k13).binds (ps := ["actual"]) (fun _ _ _ _ _ _ us hl => match us, hl with | [_], _ => rfl), PySem.W.mg_of X G a13⟩
    law_plus := ⟨_, _, fun_mk (st := s_law_plus) l14 c14 k14, (fun_mk (st := s_law_plus) l14 c14 k14).binds (ps := ["one", "two"]) (fun _ _ _ _ _ _ us hl => match us, hl with | [_, _], _ => rfl), PySem.W.mg_of X G a14⟩
    law_times := ⟨_, _, fun_mk (st := s_law_times) l15 c15 k15, (fun_mk (st := s_law_times) l15 c15 k15).binds (ps := ["one", "two"]) (fun _ _ _ _ _ _ us hl => match us, hl with | [_, _], _ => rfl), PySem.W.mg_of X G a15⟩
    law_value := ⟨_, _, fun_mk (st := s_law_value) l16 c16 k16, (fun_mk (st := s_law_value) l16 c16 k16).binds (ps := ["one", "at"]) (fun _ _ _ _ _ _ us hl => match us, hl with | [_, _], _ => rfl), PySem.W.mg_of X G a16⟩
    law_drawn := ⟨_, _, fun_mk (st := s_law_drawn) l17 c17 k17, (fun_mk (st := s_law_drawn) l17 c17 k17).binds (ps := ["draws", "first"]) (fun _ _ _ _ _ _ us hl => match us, hl with | [_, _], _ => rfl), PySem.W.mg_of X G a17⟩
    law := ⟨_, _, fun_mk (st := s_law) l18 c18 k18, (fun_mk (st := s_law) l18 c18 k18).binds (ps := ["script"]) (fun _ _ _ _ _ _ us hl => match us, hl with | [_], _ => rfl), PySem.W.mg_of X G a18⟩
    m_abs := PySem.W.mg_none_of X G z_abs
    m_all := PySem.W.mg_none_of X G z_all
    m_bool := PySem.W.mg_none_of X G z_bool
    m_enumerate := PySem.W.mg_none_of X G z_enumerate
    m_int := PySem.W.mg_none_of X G z_int
    m_isinstance := PySem.W.mg_none_of X G z_isinstance
    m_len := PySem.W.mg_none_of X G z_len
    m_list := PySem.W.mg_none_of X G z_list
    m_max := PySem.W.mg_none_of X G z_max
    m_min := PySem.W.mg_none_of X G z_min
    m_range := PySem.W.mg_none_of X G z_range
    m_repr := PySem.W.mg_none_of X G z_repr
    m_reversed := PySem.W.mg_none_of X G z_reversed
  }
  exact ⟨PySem.W.fnOf "law" "law" (defArgs s_law) (defBody s_law) (defScope s_law) .none kV18 dc18 pm18 an18 cd18 ct18, fun s v => .of_eq rfl, fun base _ _ => ok_law T⟩
theorem walk {l : PySem.W.OpenLaw} {q : Program} {loose : List Str} {XP : (Str → Option Value) → Heap → Prop} {YP : World → Heap → Prop} {d : DefRec} {K : Params → PySem.W.Frag} (hn : l.most = some 63) (hdf : d.params.defaults = [])
    (hY : ∀ (w : World) (h : Heap), YP w h → (K w.params).In h)
    (F : ∀ (w : World) (mg : Str → Option Value) (fa : Addr) (h : Heap), (K w.params).In h → h.Ns mainGlobals mg → mg d.name = some (.ref fa) →
      ∃ fd : FuncData, (∀ (s : Shared) (u : Value), BindsTo s fd ⟨[u], []⟩ [("script", u)]) ∧ ∀ base : Heap, (K w.params).In base → base.Ns mainGlobals mg → FnOk l.prog w (K w.params) mg base CX0 5 fa fd ["script"] (sp_law (K w.params))) :
    PySem.W.WalkO q loose XP YP l.row.toRowW d [] (fun f vs => PySem.call f vs) :=
  L2.walk_of (n := 63) (k := 5) (x := "script") (CX := fun _ => CX0) (sp := fun w => sp_law (K w.params)) hn (by decide) hdf ⟨rfl, by decide, by decide⟩ hY F (fun _ _ a ns hl _ hS => ⟨a, ns, rfl, hS, hl, fun _ => rfl⟩) fun _ _ _ _ _ z => z
end
end K00

open PySem PySem.W PyProof.Rows in
set_option maxRecDepth 100000 in
set_option maxHeartbeats 0 in
theorem PySem.Challenge.cw_unsaidsizes_k00_polynomials_holds : PySem.Challenge.rw_unsaidsizes_k00_polynomials.Holds := by
  w_on; o_law; k_head; (case hw => w_witness2)
  k_fill
  refine K00.walk (l := PySem.Challenge.rw_unsaidsizes_k00_polynomials) rfl rfl (fun w h Y => PySem.W.kIn_of Y) ?F
  case F =>
    intro w mg fa h KX G hmg
    refine' K00.all_mk KX G hmg ?a0 ?l0 ?c0 ?k0 ?a1 ?l1 ?c1 ?k1 ?a2 ?l2 ?c2 ?k2 ?a3 ?l3 ?c3 ?k3 ?a4 ?l4 ?c4 ?k4 ?a5 ?l5 ?c5 ?k5 ?a6 ?l6 ?c6 ?k6 ?a7 ?l7 ?c7 ?k7 ?a8 ?l8 ?c8 ?k8 ?a9 ?l9 ?c9 ?k9 ?a10 ?l10 ?c10 ?k10 ?a11 ?l11 ?c11 ?k11 ?a12 ?l12 ?c12 ?k12 ?a13 ?l13 ?c13 ?k13 ?a14 ?l14 ?c14 ?k14 ?a15 ?l15 ?c15 ?k15 ?a16 ?l16 ?c16 ?k16 ?a17 ?l17 ?c17 ?k17 ?a18 ?l18 ?c18 ?k18 ?z_abs ?z_all ?z_bool ?z_enumerate ?z_int ?z_isinstance ?z_len ?z_list ?z_max ?z_min ?z_range ?z_repr ?z_reversed
    (case a0 => k_is)
    (case l0 => k_is)
    (case c0 => k_is)
    (case k0 => k_is)
    (case a1 => k_is)
    (case l1 => k_is)
    (case c1 => k_is)
    (case k1 => k_is)
    (case a2 => k_is)
    (case l2 => k_is)
    (case c2 => k_is)
    (case k2 => k_is)
    (case a3 => k_is)
    (case l3 => k_is)
    (case c3 => k_is)
    (case k3 => k_is)
    (case a4 => k_is)
    (case l4 => k_is)
    (case c4 => k_is)
    (case k4 => k_is)
    (case a5 => k_is)
    (case l5 => k_is)
    (case c5 => k_is)
    (case k5 => k_is)
    (case a6 => k_is)
    (case l6 => k_is)
    (case c6 => k_is)
    (case k6 => k_is)
    (case a7 => k_is)
    (case l7 => k_is)
    (case c7 => k_is)
    (case k7 => k_is)
    (case a8 => k_is)
    (case l8 => k_is)
    (case c8 => k_is)
    (case k8 => k_is)
    (case a9 => k_is)
    (case l9 => k_is)
    (case c9 => k_is)
    (case k9 => k_is)
    (case a10 => k_is)
    (case l10 => k_is)
    (case c10 => k_is)
    (case k10 => k_is)
    (case a11 => k_is)
    (case l11 => k_is)
    (case c11 => k_is)
    (case k11 => k_is)
    (case a12 => k_is)
    (case l12 => k_is)
    (case c12 => k_is)
    (case k12 => k_is)
    (case a13 => k_is)
    (case l13 => k_is)
    (case c13 => k_is)
    (case k13 => k_is)
    (case a14 => k_is)
    (case l14 => k_is)
    (case c14 => k_is)
    (case k14 => k_is)
    (case a15 => k_is)
    (case l15 => k_is)
    (case c15 => k_is)
    (case k15 => k_is)
    (case a16 => k_is)
    (case l16 => k_is)
    (case c16 => k_is)
    (case k16 => k_is)
    (case a17 => k_is)
    (case l17 => k_is)
    (case c17 => k_is)
    (case k17 => k_is)
    (case a18 => k_is)
    (case l18 => k_is)
    (case c18 => k_is)
    (case k18 => k_is)
    (case z_abs => k_is)
    (case z_all => k_is)
    (case z_bool => k_is)
    (case z_enumerate => k_is)
    (case z_int => k_is)
    (case z_isinstance => k_is)
    (case z_len => k_is)
    (case z_list => k_is)
    (case z_max => k_is)
    (case z_min => k_is)
    (case z_range => k_is)
    (case z_repr => k_is)
    (case z_reversed => k_is)
