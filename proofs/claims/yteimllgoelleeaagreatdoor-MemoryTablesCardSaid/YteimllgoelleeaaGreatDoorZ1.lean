/- Kit, IMath, IFil, laid together. -/
import Derived.Test.YteimllgoelleeaaGreatDoorRows
import Derived.WalkKit
import Derived.WalkSpells
import Derived.WalkLawsBesides
import Derived.Lib.Hide
import Derived.Deep.QuietTactic
import Derived.BigQuiet
import Derived.Deep.Light
set_option linter.unusedSimpArgs false
set_option linter.unusedVariables false
/- Small words of our own that all texts of this seat share: what a call leaves of the world that was there (Bel), and lemmas that close a walk's ways. -/
namespace Go.Proofs.YteimllgoelleeaaGreatDoor
open Go.RowKit

def Bel (w w' : World) : Prop := Below w.heap.size w w'
theorem Bel.refl (w : World) : Bel w w := Below.refl _ _
theorem Bel.trans {a b c : World} (h : Bel a b) (k : Bel b c) : Bel a c := Below.trans h (Below.mono k (Below.size h))
theorem Bel.drew {a w : World} (h : Bel a w) : Bel a w.drew := Below.drew h
theorem Bel.drewN {a w : World} (h : Bel a w) (n : Nat) : Bel a (w.drewN n) := ⟨h.os, h.tape, h.output, h.size, h.block⟩
theorem Bel.alloc {a w : World} (h : Bel a w) (o : Obj) : Bel a (w.alloc o) := Below.alloc h (Below.size h) o
theorem Bel.setCell {a w : World} (h : Bel a w) {p : Addr} (hp : a.heap.size ≤ p.block) (u : Value) : Bel a (w.setCell p u) := Below.setCell h hp u
theorem Bel.size {a w : World} (h : Bel a w) : a.heap.size ≤ w.heap.size := Below.size h
theorem Bel.cell {a w : World} (h : Bel a w) (b o : Nat) (hb : b < a.heap.size) : w.cell? ⟨b, o, none⟩ = a.cell? ⟨b, o, none⟩ := Below.cell (p := ⟨b, o, none⟩) h hb
theorem Bel.frozen {a w : World} (h : Bel a w) (b o : Nat) (hb : b < a.heap.size) : w.frozen? ⟨b, o, none⟩ = a.frozen? ⟨b, o, none⟩ := Below.frozen (p := ⟨b, o, none⟩) h hb
def Drw (w w' : World) : Prop := ∃ n, w' = w.drewN n
theorem Drw.refl (w : World) : Drw w w := ⟨0, rfl⟩
theorem Drw.drew {a w : World} (h : Drw a w) : Drw a w.drew := by obtain ⟨n, rfl⟩ := h; exact ⟨n + 1, rfl⟩
theorem Drw.drewN {a w : World} (h : Drw a w) (m : Nat) : Drw a (w.drewN m) := by
  obtain ⟨n, rfl⟩ := h
  exact ⟨n + m, by simp [World.drewN, Nat.add_assoc]⟩
theorem Drw.trans {a b c : World} (h : Drw a b) (k : Drw b c) : Drw a c := by obtain ⟨m, rfl⟩ := k; exact h.drewN m
theorem Drw.bel {a w : World} (h : Drw a w) : Bel a w := by obtain ⟨n, rfl⟩ := h; exact (Bel.refl a).drewN n
def Stopped (P : Prop) : Prop := P
theorem stop_here {P : Prop} (h : Stopped P) : P := h
theorem go_on {P : Prop} (h : P) : Stopped P := h
theorem ret_bool {a b : Bool} (h : a = b) : Ending.returned (.bool a) = Ending.returned (.bool b) := by rw [h]
theorem ret_int {k : IntKind} {a b : Int} (h : a = b) : Ending.returned (.int k a) = Ending.returned (.int k b) := by rw [h]
theorem ret_string {a b : ByteArray} (h : a = b) : Ending.returned (.string a) = Ending.returned (.string b) := by rw [h]
end Go.Proofs.YteimllgoelleeaaGreatDoor
/- Mathematics of chapter 9: bits of a text, texts with bits set; how many are set; no program. -/
namespace Go.Proofs.YteimllgoelleeaaGreatDoor

def byteN (L : List UInt8) (i : Nat) : Nat := (L[i]?.getD 0).toNat
def bitN (L : List UInt8) (i : Nat) : Bool := (byteN L (i / 8)).testBit (i % 8)
def setN (L : List UInt8) (i : Nat) : List UInt8 := L.set (i / 8) (UInt8.ofNat (byteN L (i / 8) ||| 2 ^ (i % 8)))
def setAll (L : List UInt8) (is : List Nat) : List UInt8 := is.foldl setN L
theorem byteN_lt (L : List UInt8) (i : Nat) : byteN L i < 256 := (L[i]?.getD 0).toNat_lt
theorem byte_get {L : List UInt8} {i : Nat} (h : i < L.length) : byteN L i = L[i].toNat := by simp [byteN, h]
theorem setN_len (L : List UInt8) (i : Nat) : (setN L i).length = L.length := by simp [setN]
theorem setAll_len (is : List Nat) : ∀ L : List UInt8, (setAll L is).length = L.length := by
  induction is with
  | nil => intro L; rfl
  | cons i is ih => intro L; show (setAll (setN L i) is).length = _; rw [ih, setN_len]
theorem or_byte (L : List UInt8) (i k : Nat) : byteN L i ||| 2 ^ (k % 8) < 256 := by
  have h1 : byteN L i < 2 ^ 8 := byteN_lt L i
  have h2 : 2 ^ (k % 8) < 2 ^ 8 := Nat.pow_lt_pow_right (by omega) (Nat.mod_lt _ (by omega))
  exact Nat.or_lt_two_pow h1 h2
def zeroL (n : Nat) : List UInt8 := List.replicate n 0
end Go.Proofs.YteimllgoelleeaaGreatDoor
/- Mathematics of chapter 9: hashes, places, filters, what they tell; no program. -/
namespace Go.Proofs.YteimllgoelleeaaGreatDoor

def stepN (h : Nat) : Nat := if h / 4294967296 % 2 = 0 then h / 4294967296 + 1 else h / 4294967296
def placeN (h bits k : Nat) : Nat := (h % 4294967296 + k * stepN h) % bits
def placesL (h bits : Nat) : List Nat := if bits = 0 then [] else [placeN h bits 0, placeN h bits 1, placeN h bits 2, placeN h bits 3]
def mixN (h : Nat) (b : UInt8) : Nat := ((h ^^^ b.toNat) * 1099511628211) % 18446744073709551616
def rawN (s : List UInt8) : Nat := s.foldl mixN 14695981039346656037
def hashN (s : List UInt8) : Nat := rawN s ^^^ (rawN s / 8589934592)
theorem raw_lt : ∀ (s : List UInt8) (h : Nat), h < 18446744073709551616 → s.foldl mixN h < 18446744073709551616
  | [], h, hh => hh
  | b :: s, h, hh => raw_lt s _ (Nat.mod_lt _ (by omega))
theorem rawN_lt (s : List UInt8) : rawN s < 18446744073709551616 := raw_lt s _ (by omega)
theorem hash_lt (s : List UInt8) : hashN s < 18446744073709551616 := by
  have h1 : rawN s < 2 ^ 64 := rawN_lt s
  have h2 : rawN s / 8589934592 < 2 ^ 64 := Nat.lt_of_le_of_lt (Nat.div_le_self _ _) h1
  exact Nat.xor_lt_two_pow h1 h2
theorem step_le (h : Nat) (hh : h < 18446744073709551616) : stepN h ≤ 4294967296 := by
  unfold stepN; split <;> omega
theorem places_lt {h bits i : Nat} (hi : i ∈ placesL h bits) : i < bits := by
  unfold placesL at hi
  split at hi
  · cases hi
  · have : ∀ k, placeN h bits k < bits := fun k => Nat.mod_lt _ (by omega)
    simp only [List.mem_cons, List.not_mem_nil, or_false] at hi
    rcases hi with rfl | rfl | rfl | rfl <;> exact this _
theorem places_zero (h : Nat) : placesL h 0 = [] := by unfold placesL; rw [if_pos rfl]
theorem places_len {h bits : Nat} (hb : bits ≠ 0) : (placesL h bits).length = 4 := by unfold placesL; rw [if_neg hb]; rfl
theorem places_get {h bits : Nat} (hb : bits ≠ 0) (k : Nat) (hk : k < 4) : (placesL h bits)[k]? = some (placeN h bits k) := by
  unfold placesL
  rw [if_neg hb]
  rcases k with _ | _ | _ | _ | k
  · rfl
  · rfl
  · rfl
  · rfl
  · omega
def sizeF (n : Nat) : Nat := max 8 (n + (n + 1) / 2)
def bitsF (keys : List (List UInt8)) (n : Nat) : List Nat := keys.flatMap fun k => placesL (hashN k) (8 * n)
def buildF (keys : List (List UInt8)) : List UInt8 := if keys = [] then [] else setAll (zeroL (sizeF keys.length)) (bitsF keys (sizeF keys.length))
theorem zero_len (n : Nat) : (zeroL n).length = n := by simp [zeroL]
theorem build_len {keys : List (List UInt8)} (h : keys ≠ []) : (buildF keys).length = sizeF keys.length := by
  unfold buildF; rw [if_neg h, setAll_len, zero_len]
end Go.Proofs.YteimllgoelleeaaGreatDoor
