/- Mathematics of chapter 9: hashes, places, filters, what they tell; no program. -/
import Derived.Test.YtaabaphpllnieaaIMath
set_option linter.unusedSimpArgs false
set_option linter.unusedVariables false
namespace Go.Proofs.Ytaabaphpllnieaa

def stepN (h : Nat) : Nat := if h / 4294967296 % 2 = 0 then h / 4294967296 + 1 else h / 4294967296
def placeN (h bits k : Nat) : Nat := (h % 4294967296 + k * stepN h) % bits
def placesL (h bits : Nat) : List Nat := if bits = 0 then [] else [placeN h bits 0, placeN h bits 1, placeN h bits 2, placeN h bits 3]
def mixN (h : Nat) (b : UInt8) : Nat := ((h ^^^ b.toNat) * 1099511628211) % 18446744073709551616
def rawN (s : List UInt8) : Nat := s.foldl mixN 14695981039346656037
def hashN (s : List UInt8) : Nat := rawN s ^^^ (rawN s / 8589934592)
theorem raw_lt : ∀ (s : List UInt8) (h : Nat), h < 18446744073709551616 → s.foldl mixN h < 18446744073709551616
  | [], h, hh => hh
  | b :: s, h, hh => raw_lt s _ (Nat.mod_lt _ (by omega))
theorem rawN_lt (s : List UInt8) : rawN s < 18446744073709551616 := raw_lt s _ (by omega)
theorem hash_lt (s : List UInt8) : hashN s < 18446744073709551616 := by
  have h1 : rawN s < 2 ^ 64 := rawN_lt s
  have h2 : rawN s / 8589934592 < 2 ^ 64 := Nat.lt_of_le_of_lt (Nat.div_le_self _ _) h1
  exact Nat.xor_lt_two_pow h1 h2
theorem step_le (h : Nat) (hh : h < 18446744073709551616) : stepN h ≤ 4294967296 := by
  unfold stepN; split <;> omega
theorem places_lt {h bits i : Nat} (hi : i ∈ placesL h bits) : i < bits := by
  unfold placesL at hi
  split at hi
  · cases hi
  · have : ∀ k, placeN h bits k < bits := fun k => Nat.mod_lt _ (by omega)
    simp only [List.mem_cons, List.not_mem_nil, or_false] at hi
    rcases hi with rfl | rfl | rfl | rfl <;> exact this _
theorem places_zero (h : Nat) : placesL h 0 = [] := by unfold placesL; rw [if_pos rfl]
theorem places_len {h bits : Nat} (hb : bits ≠ 0) : (placesL h bits).length = 4 := by unfold placesL; rw [if_neg hb]; rfl
theorem places_get {h bits : Nat} (hb : bits ≠ 0) (k : Nat) (hk : k < 4) : (placesL h bits)[k]? = some (placeN h bits k) := by
  unfold placesL
  rw [if_neg hb]
  rcases k with _ | _ | _ | _ | k
  · rfl
  · rfl
  · rfl
  · rfl
  · omega
def sizeF (n : Nat) : Nat := max 8 (n + (n + 1) / 2)
theorem size_pos (n : Nat) : 8 ≤ sizeF n := Nat.le_max_left _ _
def bitsF (keys : List (List UInt8)) (n : Nat) : List Nat := keys.flatMap fun k => placesL (hashN k) (8 * n)
def buildF (keys : List (List UInt8)) : List UInt8 := if keys = [] then [] else setAll (zeroL (sizeF keys.length)) (bitsF keys (sizeF keys.length))
theorem zero_len (n : Nat) : (zeroL n).length = n := by simp [zeroL]
theorem bits_lt {keys : List (List UInt8)} {n : Nat} : ∀ i ∈ bitsF keys n, i < 8 * n := fun i hi => by
  unfold bitsF at hi
  rw [List.mem_flatMap] at hi
  obtain ⟨k, -, hk⟩ := hi
  exact places_lt hk
theorem build_len {keys : List (List UInt8)} (h : keys ≠ []) : (buildF keys).length = sizeF keys.length := by
  unfold buildF; rw [if_neg h, setAll_len, zero_len]
theorem build_bit {keys : List (List UInt8)} (h : keys ≠ []) (j : Nat) : bitN (buildF keys) j = decide (j ∈ bitsF keys (sizeF keys.length)) := by
  unfold buildF
  rw [if_neg h, setAll_bit _ (fun i hi => by rw [zero_len]; exact bits_lt i hi), zero_bit, Bool.or_false]
/-- The order of the keys is nothing to a filter. -/
theorem build_same {k l : List (List UInt8)} (hl : k.length = l.length) (h : ∀ x, x ∈ k ↔ x ∈ l) : buildF k = buildF l := by
  by_cases hk : k = []
  · subst hk
    obtain rfl : l = [] := List.length_eq_zero_iff.1 hl.symm
    rfl
  · have hk2 : l ≠ [] := fun e => hk (List.length_eq_zero_iff.1 (by rw [hl, e]; rfl))
    refine bits_ext (by rw [build_len hk, build_len hk2, hl]) fun j _ => ?_
    rw [build_bit hk, build_bit hk2, hl]
    unfold bitsF
    simp only [List.mem_flatMap, h]
def mayF (f key : List UInt8) : Bool := !f.isEmpty && (placesL (hashN key) (8 * f.length)).all (bitN f)
theorem may_build {keys : List (List UInt8)} {k : List UInt8} (h : k ∈ keys) : mayF (buildF keys) k = true := by
  have hne : keys ≠ [] := fun e => by rw [e] at h; cases h
  have hlen := build_len hne
  have h8 := size_pos keys.length
  unfold mayF
  rw [Bool.and_eq_true]
  refine ⟨?_, List.all_eq_true.2 fun i hi => ?_⟩
  · cases hb : buildF keys with
    | nil => rw [hb] at hlen; simp at hlen; omega
    | cons a l => rfl
  · rw [build_bit hne]
    rw [hlen] at hi
    exact decide_eq_true (List.mem_flatMap.2 ⟨k, h, hi⟩)
theorem may_full {f key : List UInt8} (hne : f ≠ []) (h : ∀ b ∈ f, b = 255) : mayF f key = true := by
  unfold mayF
  rw [Bool.and_eq_true]
  refine ⟨by cases f; exact absurd rfl hne; rfl, List.all_eq_true.2 fun i hi => ?_⟩
  have hi2 := places_lt hi
  have h1 : i / 8 < f.length := by omega
  have h2 : byteN f (i / 8) = 255 := by rw [byte_get h1, h _ (List.getElem_mem h1)]; rfl
  unfold bitN
  rw [h2]
  have h3 : i % 8 < 8 := Nat.mod_lt _ (by omega)
  generalize i % 8 = r at h3
  have : ∀ r : Fin 8, (255 : Nat).testBit r.1 = true := by decide
  exact this ⟨r, h3⟩
theorem may_zero (n : Nat) (key : List UInt8) : mayF (zeroL n) key = false := by
  unfold mayF
  by_cases hn : n = 0
  · subst hn; rfl
  · rw [zero_len]
    unfold placesL
    rw [if_neg (by omega), List.all_cons, zero_bit]
    simp
theorem cnt_build {keys : List (List UInt8)} (h : keys ≠ []) : 1 ≤ cntL (buildF keys) ∧ cntL (buildF keys) ≤ 4 * keys.length := by
  have h8 := size_pos keys.length
  constructor
  · obtain ⟨k, hk⟩ := List.exists_mem_of_ne_nil _ h
    refine cnt_pos (j := placeN (hashN k) (8 * sizeF keys.length) 0) ?_
    rw [build_bit h]
    refine decide_eq_true (List.mem_flatMap.2 ⟨k, hk, ?_⟩)
    unfold placesL
    rw [if_neg (by omega)]
    simp
  · unfold buildF
    rw [if_neg h]
    refine Nat.le_trans (cnt_le bits_lt) ?_
    clear h8 h
    generalize sizeF keys.length = n
    unfold bitsF
    induction keys with
    | nil => simp
    | cons k l ih =>
      rw [List.flatMap_cons, List.length_append, List.length_cons]
      have : (placesL (hashN k) (8 * n)).length ≤ 4 := by unfold placesL; split <;> simp
      omega
/-- What either of two filters of one size says yes to, theirs laid over one another says yes to. -/
theorem may_join {A C key : List UInt8} (hl : A.length = C.length) (h : ∀ j, j < 8 * C.length → bitN A j = true → bitN C j = true) (hm : mayF A key = true) : mayF C key = true := by
  unfold mayF at hm ⊢
  rw [Bool.and_eq_true] at hm ⊢
  obtain ⟨h1, h2⟩ := hm
  refine ⟨?_, List.all_eq_true.2 fun i hi => ?_⟩
  · cases C with
    | nil =>
      obtain rfl : A = [] := List.length_eq_zero_iff.1 hl
      cases h1
    | cons a l => rfl
  · rw [hl] at h2
    exact h i (places_lt hi) (List.all_eq_true.1 h2 i hi)
end Go.Proofs.Ytaabaphpllnieaa
