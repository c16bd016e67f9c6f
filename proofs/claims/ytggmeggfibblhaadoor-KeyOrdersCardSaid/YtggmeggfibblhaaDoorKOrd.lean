/- Mathematics of the order of keys: values' bytes stand as the values do, and tuples' as their values do. -/
import Derived.Test.YtggmeggfibblhaaDoorKTup
import Derived.Test.YtggmeggfibblhaaDoorKAfter
set_option linter.unusedSimpArgs false
set_option linter.unusedVariables false
namespace Go.Proofs.YtggmeggfibblhaaDoor

theorem esc_cmp : ∀ s t : List UInt8, Lib.compareBytes (escL s ++ [0, 0]) (escL t ++ [0, 0]) = Lib.compareBytes s t
  | [], [] => rfl
  | [], b :: t => by
    by_cases hb : b = 0
    · subst hb
      rw [escL_zero, escL_nil]
      rfl
    · rw [escL_other b t hb, escL_nil, List.cons_append, List.nil_append]
      have : (0 : UInt8).toNat < b.toNat := by
        have h : b.toNat ≠ 0 := fun h => hb (UInt8.toNat_inj.1 h)
        show 0 < b.toNat; omega
      rw [cb_cons_lt _ _ _ _ this]; rfl
  | a :: s, [] => by
    by_cases hb : a = 0
    · subst hb
      rw [escL_zero, escL_nil]
      rfl
    · rw [escL_other a s hb, escL_nil, List.cons_append, List.nil_append]
      have : (0 : UInt8).toNat < a.toNat := by
        have h : a.toNat ≠ 0 := fun h => hb (UInt8.toNat_inj.1 h)
        show 0 < a.toNat; omega
      rw [cb_cons_gt _ _ _ _ this]; rfl
  | a :: s, b :: t => by
    by_cases hab : a = b
    · subst hab
      rw [cb_cons_eq]
      by_cases ha : a = 0
      · subst ha
        rw [escL_zero, escL_zero, List.cons_append, List.cons_append, List.cons_append, List.cons_append, cb_cons_eq, cb_cons_eq, esc_cmp s t]
      · rw [escL_other a s ha, escL_other a t ha, List.cons_append, List.cons_append, cb_cons_eq, esc_cmp s t]
    · have hd : ∀ (c : UInt8) (l : List UInt8), ∃ r, escL (c :: l) ++ [0, 0] = c :: r := by
        intro c l
        by_cases hc : c = 0
        · subst hc; exact ⟨_, by rw [escL_zero, List.cons_append]⟩
        · exact ⟨_, by rw [escL_other c l hc, List.cons_append]⟩
      obtain ⟨x, hx⟩ := hd a s
      obtain ⟨y, hy⟩ := hd b t
      rw [hx, hy]
      have hne : a.toNat ≠ b.toNat := fun h => hab (UInt8.toNat_inj.1 h)
      by_cases hl : a.toNat < b.toNat
      · rw [cb_cons_lt _ _ _ _ hl, cb_cons_lt _ _ _ _ hl]
      · rw [cb_cons_gt _ _ _ _ (by omega), cb_cons_gt _ _ _ _ (by omega)]
theorem or3_zero (y z : Int) : or3 0 y z = if y ≠ 0 then y else z := by unfold or3; simp
theorem or3_first (x y z : Int) (h : x ≠ 0) : or3 x y z = x := by unfold or3; rw [if_pos h]

def cmpK (a b : KV) : Int := cmpV a.k a.n a.t b.k b.n b.t
theorem cmpK_zero (a b : KV) : cmpK a b = 0 ↔ a = b := by
  unfold cmpK
  rw [cmpV_zero]
  constructor
  · rintro ⟨h1, h2, h3⟩; exact KV.eq h1 h2 h3
  · rintro rfl; exact ⟨rfl, rfl, rfl⟩
theorem enc_cmp (a b : KV) (ha : a.right = true) (hb : b.right = true) (ia : a.in64) (ib : b.in64) : Lib.compareBytes (encL a) (encL b) = cmpK a b := by
  obtain ⟨ka, a1, a6⟩ := kind_byte a ha
  obtain ⟨kb, b1, b6⟩ := kind_byte b hb
  unfold cmpK cmpV encL
  rcases cmpI_tri a.k b.k with ⟨h, e⟩ | ⟨h, e⟩ | ⟨h, e⟩
  · rw [e, or3_first _ _ _ (by decide), cb_cons_lt _ _ _ _ (by omega)]
  · rw [e, or3_zero]
    have ehead : UInt8.ofNat a.k.toNat = UInt8.ofNat b.k.toNat := by rw [h]
    rw [ehead, cb_cons_eq]
    have hca := right_cases a ha
    have hcb := right_cases b hb
    unfold bodyL
    rw [← h]
    by_cases hw : widK a.k = 0
    · rw [if_pos hw, if_pos hw, esc_cmp]
      have n0 : a.n = 0 := by rcases hca with h | h <;> omega
      have m0 : b.n = 0 := by rw [← h] at hcb; rcases hcb with h | h <;> omega
      rw [n0, m0]
      simp [cmpI]
    · rw [if_neg hw, if_neg hw]
      have ta : a.t = [] := by
        rcases hca with h | h
        · exact h.2.2.1
        · omega
      have tb : b.t = [] := by
        rw [← h] at hcb
        rcases hcb with h | h
        · exact h.2.2.1
        · omega
      obtain ⟨x1, x2⟩ := right_num a ha ia (by omega)
      obtain ⟨y1, y2⟩ := right_num b hb ib (by rw [← h]; omega)
      rw [← h] at y1 y2
      have hp : ((256 : Nat) : Int) = 256 := rfl
      have hx : (a.n + biasK a.k).toNat < 256 ^ widK a.k := by
        have : ((a.n + biasK a.k).toNat : Int) < ((256 ^ widK a.k : Nat) : Int) := by rw [Int.natCast_pow, hp]; omega
        omega
      have hy : (b.n + biasK a.k).toNat < 256 ^ widK a.k := by
        have : ((b.n + biasK a.k).toNat : Int) < ((256 ^ widK a.k : Nat) : Int) := by rw [Int.natCast_pow, hp]; omega
        omega
      have hz : Lib.compareBytes a.t b.t = 0 := by rw [ta, tb]; rfl
      rw [hz]
      rcases cmpI_tri a.n b.n with ⟨g, e2⟩ | ⟨g, e2⟩ | ⟨g, e2⟩
      · rw [e2, cmp_sum _ _ (by rw [bigL_len, bigL_len]) (by rw [sum_big, sum_big, Nat.mod_eq_of_lt hx, Nat.mod_eq_of_lt hy]; omega)]; rfl
      · rw [e2, g, cmp_self]; rfl
      · rw [e2, cmp_swap _ _ (cmp_sum _ _ (by rw [bigL_len, bigL_len]) (by rw [sum_big, sum_big, Nat.mod_eq_of_lt hx, Nat.mod_eq_of_lt hy]; omega))]; rfl
  · rw [e, or3_first _ _ _ (by decide), cb_cons_gt _ _ _ _ (by omega)]

theorem enc_prefix (a b : KV) (ha : a.right = true) (hb : b.right = true) (ia : a.in64) (ib : b.in64) (h : (encL a).take (min (encL a).length (encL b).length) = (encL b).take (min (encL a).length (encL b).length)) : a = b := by
  by_cases hl : (encL a).length ≤ (encL b).length
  · rw [Nat.min_eq_left hl, List.take_of_length_le (Nat.le_refl _)] at h
    have e := List.take_append_drop (encL a).length (encL b)
    rw [← h] at e
    exact (enc_inj a b ha hb ia ib ((encL b).drop (encL a).length) [] (by rw [e, List.append_nil])).1
  · rw [Nat.min_eq_right (by omega)] at h
    rw [List.take_of_length_le (l := encL b) (Nat.le_refl _)] at h
    have e := List.take_append_drop (encL b).length (encL a)
    rw [h] at e
    exact (enc_inj a b ha hb ia ib [] ((encL a).drop (encL b).length) (by rw [e, List.append_nil])).1

theorem cmp_app (x y : List UInt8) : ∀ l m : List UInt8, (∀ r, l ≠ m ++ r) → (∀ r, m ≠ l ++ r) → Lib.compareBytes (l ++ x) (m ++ y) = Lib.compareBytes l m
  | [], m, _, h => absurd rfl (h m)
  | a :: l, [], h, _ => absurd rfl (h (a :: l))
  | a :: l, b :: m, h1, h2 => by
    rw [List.cons_append, List.cons_append]
    by_cases ha : a.toNat < b.toNat
    · rw [cb_cons_lt _ _ _ _ ha, cb_cons_lt _ _ _ _ ha]
    by_cases hb : b.toNat < a.toNat
    · rw [cb_cons_gt _ _ _ _ hb, cb_cons_gt _ _ _ _ hb]
    · have : a = b := UInt8.toNat_inj.1 (by omega)
      subst this
      rw [cb_cons_eq, cb_cons_eq]
      exact cmp_app x y l m (fun r hr => h1 r (by rw [hr]; rfl)) (fun r hr => h2 r (by rw [hr]; rfl))
theorem cb_same_front : ∀ (l x y : List UInt8), Lib.compareBytes (l ++ x) (l ++ y) = Lib.compareBytes x y
  | [], x, y => rfl
  | a :: l, x, y => by rw [List.cons_append, List.cons_append, cb_cons_eq, cb_same_front l x y]

/-- How two rows of values stand. -/
def tupC : List KV → List KV → Int
  | [], [] => 0
  | [], _ :: _ => -1
  | _ :: _, [] => 1
  | a :: l, b :: m => if cmpK a b = 0 then tupC l m else cmpK a b
theorem cat_cmp : ∀ (l m : List KV), (∀ v ∈ l, v.right = true) → (∀ v ∈ m, v.right = true) → (∀ v ∈ l, v.in64) → (∀ v ∈ m, v.in64) → Lib.compareBytes (catL l) (catL m) = tupC l m
  | [], [], _, _, _, _ => rfl
  | [], b :: m, _, _, _, _ => by rw [catL_cons]; simp [catL, encL, Lib.compareBytes, tupC]
  | a :: l, [], _, _, _, _ => by rw [catL_cons]; simp [catL, encL, Lib.compareBytes, tupC]
  | a :: l, b :: m, ha, hb, ia, ib => by
    rw [catL_cons, catL_cons, tupC]
    have ra := ha a (by simp)
    have rb := hb b (by simp)
    have na := ia a (by simp)
    have nb := ib b (by simp)
    by_cases hz : cmpK a b = 0
    · have e := (cmpK_zero a b).1 hz
      subst e
      rw [if_pos hz, cb_same_front]
      exact cat_cmp l m (fun v hv => ha v (by simp [hv])) (fun v hv => hb v (by simp [hv])) (fun v hv => ia v (by simp [hv])) (fun v hv => ib v (by simp [hv]))
    · rw [if_neg hz, ← enc_cmp a b ra rb na nb]
      have hne : a ≠ b := fun h => hz ((cmpK_zero a b).2 h)
      apply cmp_app
      · intro r hr
        exact hne (enc_inj a b ra rb na nb [] r (by simpa using hr)).1
      · intro r hr
        exact hne (enc_inj a b ra rb na nb r [] (by simpa using hr.symm)).1
theorem cb_min (a b : List UInt8) : -1 ≤ Lib.compareBytes a b ∧ Lib.compareBytes a b ≤ 1 := cb_range a b
end Go.Proofs.YtggmeggfibblhaaDoor
