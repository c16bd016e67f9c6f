/- key.After and moultref4.After: what stands behind a text. -/
import Derived.Test.YtggmeggfibblhaaDoorKText
import Derived.Test.YtggmeggfibblhaaDoorOrd
set_option linter.unusedSimpArgs false
set_option linter.unusedVariables false
namespace Go.Proofs.YtggmeggfibblhaaDoor
open Go.RowKit Go.Deep

def afterL : List UInt8 → Option (List UInt8)
  | [] => none
  | b :: r => match afterL r with
    | some a => some (b :: a)
    | none => if b = 255 then none else some [b + 1]
theorem after_in (b : UInt8) (r a : List UInt8) (h : afterL r = some a) : afterL (b :: r) = some (b :: a) := by rw [afterL, h]
theorem after_full (r : List UInt8) (h : afterL r = none) : afterL (255 :: r) = none := by rw [afterL, h]; rfl
theorem after_last (b : UInt8) (r : List UInt8) (h : afterL r = none) (hb : b ≠ 255) : afterL (b :: r) = some [b + 1] := by rw [afterL, h]; simp [hb]
theorem after_at (b : UInt8) (r : List UInt8) (h : afterL r = none) (hb : b ≠ 255) : ∀ l : List UInt8, afterL (l ++ b :: r) = some (l ++ [b + 1])
  | [] => after_last b r h hb
  | c :: l => after_in c _ _ (after_at b r h hb l)
theorem cb_cons_lt (a b : UInt8) (l m : List UInt8) (h : a.toNat < b.toNat) : Lib.compareBytes (a :: l) (b :: m) = -1 := by rw [Lib.compareBytes, if_pos (UInt8.lt_iff_toNat_lt.2 h)]
theorem cb_cons_gt (a b : UInt8) (l m : List UInt8) (h : b.toNat < a.toNat) : Lib.compareBytes (a :: l) (b :: m) = 1 := by
  rw [Lib.compareBytes, if_neg (by rw [UInt8.lt_iff_toNat_lt]; omega), if_pos (UInt8.lt_iff_toNat_lt.2 h)]
theorem cb_cons_eq (a : UInt8) (l m : List UInt8) : Lib.compareBytes (a :: l) (a :: m) = Lib.compareBytes l m := by
  rw [Lib.compareBytes, if_neg (by rw [UInt8.lt_iff_toNat_lt]; omega), if_neg (by rw [UInt8.lt_iff_toNat_lt]; omega)]
/-- Behind bytes 255 alone nothing stands that does not begin with them. -/
theorem after_none : ∀ (s t : List UInt8), afterL s = none → t.take s.length = s ∨ Lib.compareBytes t s < 0
  | [], t, _ => Or.inl rfl
  | b :: s, t, h => by
    have hb : b = 255 := by
      by_cases hb : b = 255
      · exact hb
      · rw [afterL] at h
        cases hs : afterL s with
        | none => rw [hs] at h; simp [hb] at h
        | some a => rw [hs] at h; simp at h
    subst hb
    have hs : afterL s = none := by
      rw [afterL] at h
      cases hs : afterL s with
      | none => rfl
      | some a => rw [hs] at h; simp at h
    cases t with
    | nil => right; simp [Lib.compareBytes]
    | cons c t =>
      by_cases hc : c = 255
      · subst hc
        rcases after_none s t hs with h1 | h1
        · left; rw [List.length_cons, List.take_succ_cons, h1]
        · right; rw [cb_cons_eq]; exact h1
      · right
        have h1 : c.toNat < (255 : UInt8).toNat := by
          have := c.toNat_lt
          have h2 : c.toNat ≠ 255 := fun h => hc (UInt8.toNat_inj.1 h)
          show c.toNat < 255; omega
        rw [cb_cons_lt _ _ _ _ h1]; decide
/-- What is less than what is behind a text begins with the text, or is less than it. -/
theorem after_some : ∀ (s t a : List UInt8), afterL s = some a → (Lib.compareBytes t a < 0 ↔ (t.take s.length = s ∨ Lib.compareBytes t s < 0))
  | [], t, a, h => by cases h
  | b :: s, t, a, h => by
    rw [afterL] at h
    cases hs : afterL s with
    | some a' =>
      rw [hs] at h
      simp only [Option.some.injEq] at h
      subst h
      cases t with
      | nil => simp [Lib.compareBytes]
      | cons c t =>
        by_cases h1 : c.toNat < b.toNat
        · rw [cb_cons_lt _ _ _ _ h1, cb_cons_lt _ _ _ _ h1]; simp
        by_cases h2 : b.toNat < c.toNat
        · rw [cb_cons_gt _ _ _ _ h2, cb_cons_gt _ _ _ _ h2]
          have : c ≠ b := by intro e; subst e; omega
          simp [this]
        · have : c = b := UInt8.toNat_inj.1 (by omega)
          subst this
          rw [cb_cons_eq, cb_cons_eq, after_some s t a' hs]
          simp
    | none =>
      rw [hs] at h
      by_cases hb : b = 255
      · simp [hb] at h
      · simp [hb] at h
        subst h
        have hb1 : (b + 1).toNat = b.toNat + 1 := by
          have := b.toNat_lt
          have h2 : b.toNat ≠ 255 := fun h => hb (UInt8.toNat_inj.1 h)
          rw [UInt8.toNat_add]; simp; omega
        cases t with
        | nil => simp [Lib.compareBytes]
        | cons c t =>
          by_cases h1 : c.toNat < b.toNat
          · rw [cb_cons_lt _ _ _ _ h1, cb_cons_lt _ _ _ _ (by omega)]; simp
          by_cases h2 : b.toNat < c.toNat
          · rw [cb_cons_gt _ _ _ _ h2]
            have h3 : c ≠ b := by intro e; subst e; omega
            by_cases h4 : b.toNat + 1 < c.toNat
            · rw [cb_cons_gt _ _ _ _ (by omega)]; simp [h3]
            · have : c = b + 1 := UInt8.toNat_inj.1 (by omega)
              subst this
              rw [cb_cons_eq]
              cases t <;> simp [Lib.compareBytes, h3]
          · have : c = b := UInt8.toNat_inj.1 (by omega)
            subst this
            rw [cb_cons_eq, cb_cons_lt _ _ _ _ (by omega)]
            have := after_none s t hs
            simp
            exact this

/-- What After answers. -/
def afterV (o : Option (List UInt8)) : Value := match o with
  | some a => .tuple #[.string ⟨a.toArray⟩, .bool true]
  | none => .tuple #[.string ⟨#[]⟩, .bool false]
def AftRel (s : ByteArray) (i : Value) : Prop := ∃ k : Nat, k ≤ s.size ∧ i = .int .i64 ((k : Int) - 1) ∧ afterL (s.data.toList.drop k) = none
theorem split_at (s : ByteArray) (j : Nat) (h : j < s.size) : s.data.toList = s.data.toList.take j ++ s[j] :: s.data.toList.drop (j + 1) := by
  rw [← drop_cons s j h, List.take_append_drop]
theorem conv_byte {W : World} (g : Nat) (b : UInt8) (h : W.cell? ⟨g, 0, none⟩ = some (.int .u8 b.toNat)) :
    (convert 46 9 (.slice (some ⟨g, 0, none⟩) 1 1)).run Tryd.prog W = .ok (.string ⟨#[b]⟩) W :=
  run_convert_bytes_back W 46 9 5 ⟨g, 0, none⟩ 1 [b] Tryd.underlying46 Tryd.underlying5 Tryd.underlying9 (fun j hj => by
    simp at hj; subst hj
    have e : (⟨g, 0, none⟩ : Addr).add 0 = ⟨g, 0, none⟩ := by simp [Addr.add]
    rw [e, h]; simp)

theorem next_byte (b : UInt8) (hb : b ≠ 255) : ((b + 1).toNat : Int) = (b.toNat : Int) + 1 := by
  have := b.toNat_lt
  have h2 : b.toNat ≠ 255 := fun h => hb (UInt8.toNat_inj.1 h)
  have : (b + 1).toNat = b.toNat + 1 := by rw [UInt8.toNat_add]; simp; omega
  rw [this]; rfl
theorem conv_next {wr : World} (b : UInt8) (hb : b ≠ 255) : (convert 46 9 (.slice (some ⟨wr.heap.size, 0, none⟩) 1 1)).run Tryd.prog ((wr.alloc (.cells #[.int .u8 ((b.toNat : Int) + 1)] 5)).drew) = .ok (.string ⟨#[b + 1]⟩) ((wr.alloc (.cells #[.int .u8 ((b.toNat : Int) + 1)] 5)).drew) :=
  conv_byte _ _ (by rw [next_byte b hb]; exact (World.cell?_alloc_new ..).trans rfl)
theorem conv_next' {wr : World} (b : UInt8) (hb : b ≠ 255) : (convert 46 9 (.slice (some ⟨wr.heap.size, 0, none⟩) 1 1)).run Tryd.prog (wr.alloc (.cells #[.int .u8 ((b.toNat : Int) + 1)] 5)) = .ok (.string ⟨#[b + 1]⟩) (wr.alloc (.cells #[.int .u8 ((b.toNat : Int) + 1)] 5)) :=
  conv_byte _ _ (by rw [next_byte b hb]; exact (World.cell?_alloc_new ..).trans rfl)

theorem ret_after {x y : ByteArray} {e : Value} (h : x = y) : Ending.returned (.tuple #[.string x, e]) = Ending.returned (.tuple #[.string y, e]) := by rw [h]
theorem after_text (s : ByteArray) (j : Nat) (b : UInt8) : s.extract 0 j ++ ⟨#[b]⟩ = ⟨(s.data.toList.take j ++ [b]).toArray⟩ := by
  rw [← ba_append, ba_eq (s := s.extract 0 j) (l := s.data.toList.take j) (by rw [ext_data, List.drop_zero])]

set_option maxHeartbeats 2000000 in
theorem after_any (s : ByteArray) (w : World) (hs : s.size ≤ 1000000) :
    Calls Tryd.prog 22 #[.string s] w fun e w' => e = .returned (afterV (afterL s.data.toList)) ∧ Bel w w' := by
  go_enter Tryd.func22, Tryd.ntmps22
  go_wp2_with (fail)
  go_loopw [4] (fun i x => AftRel s i ∧ x = w) (fun i _ => (intOf i + 1).toNat)
  case atStart => exact ⟨⟨s.size, Nat.le_refl _, rfl, by rw [List.drop_of_length_le (by exact Nat.le_refl _)]; rfl⟩, rfl⟩
  case round =>
    obtain ⟨⟨k, hk, rfl, ha⟩, rfl⟩ := hrel
    have HA := Lib.hid ha; clear ha
    by_cases h0 : k = 0
    · subst h0
      have HR := Lib.hid (show afterL s.data.toList = none from HA.out)
      go_wp2_with (fail)
      go_ret2
      exact ⟨by rw [HR.out]; rfl, Bel.refl _⟩
    · obtain ⟨j, rfl⟩ : ∃ j, k = j + 1 := ⟨k - 1, by omega⟩
      have ej : ((j + 1 : Nat) : Int) - 1 = j := by omega
      rw [ej]
      have i1 : (j : Int) < (s.size : Int) := by omega
      have i0 : (0 : Int) ≤ (j : Int) := by omega
      have hb8 := s[j].toNat_lt
      by_cases hb : s[j] = 255
      · have hb' : s[j].toNat = 255 := by rw [hb]; rfl
        have HN := Lib.hid (show afterL (s.data.toList.drop j) = none by rw [drop_cons s j (by omega), hb]; exact after_full _ HA.out)
        go_wp2_with (fail)
        go_roundw
        case rel => exact ⟨⟨j, by omega, by go_num, HN.out⟩, by trivial⟩
        case measure => simp [intOf] <;> omega
      · have hb' : (s[j].toNat : Int) < 255 := by
          have h2 : s[j].toNat ≠ 255 := fun h => hb (UInt8.toNat_inj.1 h)
          omega
        clear hb8
        have HR := Lib.hid (show afterL s.data.toList = some (s.data.toList.take j ++ [s[j] + 1]) by
          conv => lhs; rw [split_at s j (by omega)]
          exact after_at _ _ HA.out hb _)
        have hcv := conv_next (wr := wr) s[j] hb
        have hcw := conv_next' (wr := wr) s[j] hb
        have i2 : (j : Int) ≤ (s.size : Int) := by omega
        go_wp2_with (fail)
        go_region
        all_goals go_wp2_with (fail)
        all_goals go_ret2
        all_goals exact ⟨by rw [HR.out]; exact ret_after (after_text s j _), ((Bel.refl _).alloc _).drew⟩

def RAftRel (s : ByteArray) (i : Value) : Prop := ∃ k : Nat, k ≤ s.size ∧ i = .int .i64 ((k : Int) - 1) ∧ afterL (s.data.toList.drop k) = none
set_option maxHeartbeats 2000000 in
theorem rafter_any (s : ByteArray) (w : World) (hs : s.size ≤ 1000000) :
    Calls Tryd.prog 23 #[.string s] w fun e w' => e = .returned (afterV (afterL s.data.toList)) ∧ Bel w w' := by
  go_enter Tryd.func23, Tryd.ntmps23
  go_wp2_with (fail)
  go_loopw [4] (fun i x => AftRel s i ∧ x = w) (fun i _ => (intOf i + 1).toNat)
  case atStart => exact ⟨⟨s.size, Nat.le_refl _, rfl, by rw [List.drop_of_length_le (by exact Nat.le_refl _)]; rfl⟩, rfl⟩
  case round =>
    obtain ⟨⟨k, hk, rfl, ha⟩, rfl⟩ := hrel
    have HA := Lib.hid ha; clear ha
    by_cases h0 : k = 0
    · subst h0
      have HR := Lib.hid (show afterL s.data.toList = none from HA.out)
      have ej : ((0 : Nat) : Int) - 1 = -1 := by omega
      rw [ej]
      go_wp2_with (fail)
      go_ret2
      exact ⟨by rw [HR.out]; rfl, Bel.refl _⟩
    · obtain ⟨j, rfl⟩ : ∃ j, k = j + 1 := ⟨k - 1, by omega⟩
      have ej : ((j + 1 : Nat) : Int) - 1 = j := by omega
      rw [ej]
      have i1 : (j : Int) < (s.size : Int) := by omega
      have i0 : (0 : Int) ≤ (j : Int) := by omega
      have i3 : ¬ (j : Int) < 0 := by omega
      by_cases hb : s[j] = 255
      · have hb' : s[j].toNat = 255 := by rw [hb]; rfl
        have HN := Lib.hid (show afterL (s.data.toList.drop j) = none by rw [drop_cons s j (by omega), hb]; exact after_full _ HA.out)
        go_wp2_with (fail)
        go_roundw
        case rel => exact ⟨⟨j, by omega, by go_num, HN.out⟩, by trivial⟩
        case measure => simp [intOf] <;> omega
      · have hb' : (s[j].toNat : Int) < 255 := by
          have h2 : s[j].toNat ≠ 255 := fun h => hb (UInt8.toNat_inj.1 h)
          have := s[j].toNat_lt
          omega
        have hb2 : ¬ (s[j].toNat : Int) = 255 := by omega
        have hb3 : ((s[j].toNat : Int) == 255) = false := beq_eq_false_iff_ne.2 hb2
        have HR := Lib.hid (show afterL s.data.toList = some (s.data.toList.take j ++ [s[j] + 1]) by
          conv => lhs; rw [split_at s j (by omega)]
          exact after_at _ _ HA.out hb _)
        have hcv := conv_next (wr := wr) s[j] hb
        have hcw := conv_next' (wr := wr) s[j] hb
        have i2 : (j : Int) ≤ (s.size : Int) := by omega
        go_wp2_with (fail)
        go_region
        all_goals go_wp2_with (fail)
        all_goals go_ret2
        all_goals exact ⟨by rw [HR.out]; exact ret_after (after_text s j _), ((Bel.refl _).alloc _).drew⟩
end Go.Proofs.YtggmeggfibblhaaDoor
