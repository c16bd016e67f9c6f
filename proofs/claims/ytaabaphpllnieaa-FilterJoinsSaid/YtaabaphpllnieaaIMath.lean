/- Mathematics of chapter 9: bits of a text, texts with bits set; how many are set; no program. -/
import Derived.Test.YtaabaphpllnieaaKit
set_option linter.unusedSimpArgs false
set_option linter.unusedVariables false
namespace Go.Proofs.Ytaabaphpllnieaa

def byteN (L : List UInt8) (i : Nat) : Nat := (L[i]?.getD 0).toNat
def bitN (L : List UInt8) (i : Nat) : Bool := (byteN L (i / 8)).testBit (i % 8)
def setN (L : List UInt8) (i : Nat) : List UInt8 := L.set (i / 8) (UInt8.ofNat (byteN L (i / 8) ||| 2 ^ (i % 8)))
def setAll (L : List UInt8) (is : List Nat) : List UInt8 := is.foldl setN L
theorem byte_lt (L : List UInt8) (i : Nat) : byteN L i < 256 := (L[i]?.getD 0).toNat_lt
theorem byte_get {L : List UInt8} {i : Nat} (h : i < L.length) : byteN L i = L[i].toNat := by simp [byteN, h]
theorem byte_out {L : List UInt8} {i : Nat} (h : L.length ≤ i) : byteN L i = 0 := by simp [byteN, List.getElem?_eq_none h]
theorem bit_out {L : List UInt8} {j : Nat} (h : 8 * L.length ≤ j) : bitN L j = false := by
  unfold bitN
  rw [byte_out (by omega)]
  exact Nat.zero_testBit _
theorem setN_len (L : List UInt8) (i : Nat) : (setN L i).length = L.length := by simp [setN]
theorem setAll_len (is : List Nat) : ∀ L : List UInt8, (setAll L is).length = L.length := by
  induction is with
  | nil => intro L; rfl
  | cons i is ih => intro L; show (setAll (setN L i) is).length = _; rw [ih, setN_len]
theorem or_byte (L : List UInt8) (i k : Nat) : byteN L i ||| 2 ^ (k % 8) < 256 := by
  have h1 : byteN L i < 2 ^ 8 := byte_lt L i
  have h2 : 2 ^ (k % 8) < 2 ^ 8 := Nat.pow_lt_pow_right (by omega) (Nat.mod_lt _ (by omega))
  exact Nat.or_lt_two_pow h1 h2
theorem setN_bit {L : List UInt8} {i : Nat} (h : i < 8 * L.length) (j : Nat) : bitN (setN L i) j = (decide (j = i) || bitN L j) := by
  have hi : i / 8 < L.length := by omega
  unfold bitN setN
  by_cases e : j / 8 = i / 8
  · have hb : byteN (L.set (i / 8) (UInt8.ofNat (byteN L (i / 8) ||| 2 ^ (i % 8)))) (j / 8) = byteN L (i / 8) ||| 2 ^ (i % 8) := by
      rw [e, byte_get (by simpa using hi)]
      simp only [List.getElem_set_self]
      rw [UInt8.toNat_ofNat']
      exact Nat.mod_eq_of_lt (or_byte L _ _)
    rw [hb, e, Nat.testBit_or, Nat.testBit_two_pow]
    by_cases h2 : j = i
    · subst h2; simp
    · have : ¬ i % 8 = j % 8 := by omega
      simp [h2, this]
  · have hb : byteN (L.set (i / 8) (UInt8.ofNat (byteN L (i / 8) ||| 2 ^ (i % 8)))) (j / 8) = byteN L (j / 8) := by
      unfold byteN
      rw [List.getElem?_set_ne (fun q => e q.symm)]
    rw [hb]
    have : ¬ j = i := fun q => e (by rw [q])
    simp [this]
theorem setAll_bit : ∀ (is : List Nat) {L : List UInt8}, (∀ i ∈ is, i < 8 * L.length) → ∀ j, bitN (setAll L is) j = (decide (j ∈ is) || bitN L j)
  | [], L, _, j => by simp [setAll]
  | i :: is, L, h, j => by
    show bitN (setAll (setN L i) is) j = _
    rw [setAll_bit is (fun k hk => by rw [setN_len]; exact h k (by simp [hk])) j, setN_bit (h i (by simp))]
    by_cases h1 : j = i
    · simp [h1]
    · simp [h1]
theorem testBit_big {n i : Nat} (h : n < 256) (hi : 8 ≤ i) : n.testBit i = false :=
  Nat.testBit_lt_two_pow (Nat.lt_of_lt_of_le h (Nat.pow_le_pow_right (by omega) hi : 2 ^ 8 ≤ 2 ^ i))
theorem bits_ext {L M : List UInt8} (hl : L.length = M.length) (h : ∀ j, j < 8 * L.length → bitN L j = bitN M j) : L = M := by
  refine List.ext_getElem hl fun k h1 h2 => ?_
  refine UInt8.toNat_inj.1 (Nat.eq_of_testBit_eq fun i => ?_)
  rw [← byte_get h1, ← byte_get h2]
  by_cases hi : i < 8
  · have := h (8 * k + i) (by omega)
    unfold bitN at this
    rw [show (8 * k + i) / 8 = k by omega, show (8 * k + i) % 8 = i by omega] at this
    exact this
  · rw [testBit_big (byte_lt _ _) (by omega), testBit_big (byte_lt _ _) (by omega)]
def zeroL (n : Nat) : List UInt8 := List.replicate n 0
theorem zero_bit (n j : Nat) : bitN (zeroL n) j = false := by
  unfold bitN byteN zeroL
  rw [List.getElem?_replicate]
  split <;> simp
/-- How many bits are set. -/
def cntL (L : List UInt8) : Nat := ((List.range (8 * L.length)).filter (bitN L)).length
def cntTo (L : List UInt8) (n : Nat) : Nat := ((List.range n).filter (bitN L)).length
theorem cnt_succ (L : List UInt8) (n : Nat) : cntTo L (n + 1) = cntTo L n + if bitN L n then 1 else 0 := by
  unfold cntTo
  rw [List.range_succ, List.filter_append, List.length_append]
  congr 1
  by_cases h : bitN L n <;> simp [h]
def popN (c : Nat) : Nat := if h : c = 0 then 0 else c % 2 + popN (c / 2)
termination_by c
decreasing_by omega
theorem pop_bits : ∀ (k c : Nat), c < 2 ^ k → popN c = ((List.range k).filter (fun i => c.testBit i)).length
  | 0, c, h => by
    have : c = 0 := by simpa using h
    subst this; unfold popN; simp
  | k + 1, c, h => by
    by_cases h0 : c = 0
    · subst h0; unfold popN; rw [dif_pos rfl, List.filter_eq_nil_iff.2 (fun _ _ => by simp)]; rfl
    · unfold popN
      rw [dif_neg h0, pop_bits k (c / 2) (by rw [Nat.pow_succ] at h; omega), List.range_succ_eq_map, List.filter_cons]
      have hm : ((List.map Nat.succ (List.range k)).filter fun i => c.testBit i).length = ((List.range k).filter fun i => (c / 2).testBit i).length := by
        rw [List.filter_map, List.length_map]
        congr 1
        refine List.filter_congr fun i _ => ?_
        show c.testBit (i + 1) = (c / 2).testBit i
        rw [Nat.testBit_succ]
      rcases Nat.mod_two_eq_zero_or_one c with h2 | h2
      · rw [if_neg (by simp [Nat.testBit_zero, h2]), hm, h2]; omega
      · rw [if_pos (by simp [Nat.testBit_zero, h2]), List.length_cons, hm, h2]; omega
/-- Byte by byte. -/
theorem cnt_bytes (L : List UInt8) : ∀ n, cntTo L (8 * n) = ((List.range n).map (fun k => popN (byteN L k))).sum
  | 0 => by simp [cntTo]
  | n + 1 => by
    rw [List.range_succ, List.map_append, List.sum_append, ← cnt_bytes L n]
    have e8 : ∀ i, i < 8 → bitN L (8 * n + i) = (byteN L n).testBit i := fun i hi => by
      unfold bitN
      rw [show (8 * n + i) / 8 = n by omega, show (8 * n + i) % 8 = i by omega]
    have hp : popN (byteN L n) = ((List.range 8).filter (fun i => (byteN L n).testBit i)).length := pop_bits 8 _ (byte_lt L n)
    have hs : cntTo L (8 * n + 8) = cntTo L (8 * n) + ((List.range 8).filter (fun i => (byteN L n).testBit i)).length := by
      unfold cntTo
      rw [List.range_add, List.filter_append, List.length_append, List.filter_map, List.length_map]
      congr 2
      exact List.filter_congr fun i hi => e8 i (List.mem_range.1 hi)
    rw [show 8 * (n + 1) = 8 * n + 8 by omega, hs]
    simp [hp]
theorem cnt_all (L : List UInt8) : cntL L = ((List.range L.length).map (fun k => popN (byteN L k))).sum := cnt_bytes L L.length
theorem nodup_sub {α : Type} [DecidableEq α] : ∀ {l m : List α}, l.Nodup → (∀ x ∈ l, x ∈ m) → l.length ≤ m.length
  | [], m, _, _ => Nat.zero_le _
  | x :: l, m, hn, h => by
    have hx := h x (by simp)
    have := nodup_sub (m := m.erase x) (List.nodup_cons.1 hn).2 (fun y hy => (List.mem_erase_of_ne (fun e => (List.nodup_cons.1 hn).1 (by rw [← e]; exact hy))).2 (h y (by simp [hy])))
    rw [List.length_erase_of_mem hx] at this
    have := List.length_pos_of_mem hx
    simp; omega
theorem cnt_nodup (L : List UInt8) (n : Nat) : ((List.range n).filter (bitN L)).Nodup := List.Pairwise.filter _ List.nodup_range
/-- No more bits than were set. -/
theorem cnt_le {is : List Nat} {n : Nat} (h : ∀ i ∈ is, i < 8 * n) : cntL (setAll (zeroL n) is) ≤ is.length := by
  refine nodup_sub (cnt_nodup _ _) fun j hj => ?_
  rw [List.mem_filter] at hj
  have := hj.2
  rw [setAll_bit is (fun i hi => by simpa [zeroL] using h i hi), zero_bit] at this
  simpa using this
theorem cnt_pos {L : List UInt8} {j : Nat} (h : bitN L j = true) : 1 ≤ cntL L := by
  have hj : j < 8 * L.length := by
    rcases Nat.lt_or_ge j (8 * L.length) with h1 | h1
    · exact h1
    · rw [bit_out h1] at h; cases h
  exact List.length_pos_of_mem (List.mem_filter.2 ⟨List.mem_range.2 hj, h⟩)
theorem filter_le {α : Type} {P Q : α → Bool} : ∀ (l : List α), (∀ x ∈ l, P x = true → Q x = true) → (l.filter P).length ≤ (l.filter Q).length
  | [], _ => Nat.le_refl _
  | x :: l, h => by
    have ih := filter_le l (fun y hy => h y (by simp [hy]))
    have hx := h x (by simp)
    rw [List.filter_cons, List.filter_cons]
    by_cases hp : P x = true
    · rw [if_pos hp, if_pos (hx hp)]; simp; omega
    · rw [if_neg hp]
      split
      · simp; omega
      · exact ih
theorem filter_or {α : Type} {P Q R : α → Bool} : ∀ (l : List α), (∀ x ∈ l, R x = (P x || Q x)) → (l.filter R).length ≤ (l.filter P).length + (l.filter Q).length
  | [], _ => Nat.le_refl _
  | x :: l, h => by
    have ih := filter_or l (fun y hy => h y (by simp [hy]))
    rw [List.filter_cons, List.filter_cons, List.filter_cons, h x (by simp)]
    by_cases hp : P x = true <;> by_cases hq : Q x = true <;> simp [hp, hq] <;> omega
/-- Two texts of one length, laid over one another. -/
theorem cnt_join {A B C : List UInt8} (hA : A.length = C.length) (hB : B.length = C.length) (h : ∀ j, j < 8 * C.length → bitN C j = (bitN A j || bitN B j)) : cntL A ≤ cntL C ∧ cntL B ≤ cntL C ∧ cntL C ≤ cntL A + cntL B := by
  unfold cntL
  rw [hA, hB]
  refine ⟨filter_le _ fun j hj hq => ?_, filter_le _ fun j hj hq => ?_, filter_or _ fun j hj => h j (List.mem_range.1 hj)⟩
  · rw [h j (List.mem_range.1 hj), hq]; rfl
  · rw [h j (List.mem_range.1 hj), hq]; simp
end Go.Proofs.Ytaabaphpllnieaa
