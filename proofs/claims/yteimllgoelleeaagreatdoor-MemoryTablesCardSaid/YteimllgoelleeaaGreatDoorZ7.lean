/- Strs, IStr, IHash, IPlc, IEach, ISet, IMake, IRef, laid together. -/
import Derived.Test.YteimllgoelleeaaGreatDoorZ5
import Derived.Test.YteimllgoelleeaaGreatDoorZ6
import Derived.Lib.ConvBytes
import Derived.Deep.OwnRows
import Derived.Test.YteimllgoelleeaaGreatDoorZ1
import Derived.Laws.BitsAllLaws
import Derived.StillTailTactics
set_option linter.unusedSimpArgs false
set_option linter.unusedVariables false
/- Slices of texts; a row of bytes that a conversion or a make has laid. (Shared: stages 5, 9 and behind.) -/
namespace Go.Proofs.YteimllgoelleeaaGreatDoor
open Go.RowKit Go.Deep

def strEl : El (List UInt8) := ⟨9, 60, 1, fun l => [.string ⟨l.toArray⟩]⟩
theorem strOk : ElOk strEl 16 := ⟨fun _ => rfl, fun a u hu => by simp [strEl] at hu; subst hu; rfl, by kernel_rfl, ⟨.string ⟨#[]⟩, by kernel_rfl, rfl⟩, by decide⟩
def StrsAt (w : World) (p : Option Addr) (L : List (List UInt8)) : Prop := ∀ i (h : i < L.length), ∃ a, p = some a ∧ w.cell? (a.add i) = some (.string ⟨L[i].toArray⟩)
theorem add_block (a : Addr) (i : Nat) : (a.add i).block = a.block := by cases i <;> simp [Addr.add]
theorem StrsAt.bel {w x : World} {p : Option Addr} {L : List (List UInt8)} (h : StrsAt w p L) (hb : Bel w x) : StrsAt x p L := by
  intro i hi
  obtain ⟨a, ha, hc⟩ := h i hi
  exact ⟨a, ha, (Below.cell hb (block_lt_of_cell hc)).trans hc⟩
theorem ownG_strs {B : Nat} {w : World} {v : Value} {L : List (List UInt8)} (h : OwnG strEl B w v L) : ∃ p cap, v = .slice p L.length cap ∧ StrsAt w p L := by
  by_cases hL : L = []
  · subst hL
    obtain ⟨p, cap, hv⟩ := ownG_len h
    exact ⟨p, cap, hv, fun i hi => by simp at hi⟩
  · obtain ⟨g, cap, hv, _, _, _, hc⟩ := ownG_cells strOk h hL
    refine ⟨_, cap, hv, fun i hi => ⟨_, rfl, ?_⟩⟩
    have := hc i L[i] (List.getElem?_eq_getElem hi) 0 _ rfl
    have e : (⟨g, 0, none⟩ : Addr).add i = ⟨g, i * strEl.n + 0, none⟩ := by cases i <;> simp [Addr.add, strEl]
    rw [e]; exact this

def ByteRow (w : World) (b : Nat) (l : List UInt8) : Prop := ∀ j (h : j < l.length), w.cell? ⟨b, j, none⟩ = some (.int .u8 (l[j].toNat : Int)) ∧ w.frozen? ⟨b, j, none⟩ = false
theorem ByteRow.bel {w x : World} {b : Nat} {l : List UInt8} (h : ByteRow w b l) (hb : Bel w x) : ByteRow x b l := by
  intro j hj
  obtain ⟨h1, h2⟩ := h j hj
  have hlt : b < w.heap.size := block_lt_of_cell h1
  exact ⟨(hb.cell b j hlt).trans h1, (hb.frozen b j hlt).trans h2⟩
theorem ByteRow.set {w : World} {b : Nat} {l : List UInt8} (h : ByteRow w b l) (k : Nat) (hk : k < l.length) (x : UInt8) : ByteRow (w.setCell ⟨b, k, none⟩ (.int .u8 (x.toNat : Int))) b (l.set k x) := by
  intro j hj
  rw [List.length_set] at hj
  obtain ⟨h1, h2⟩ := h j hj
  refine ⟨?_, by rw [World.frozen?_setCell]; exact h2⟩
  by_cases e : k = j
  · subst e
    rw [World.cell?_setCell_same _ _ _ h1, List.getElem_set_self]
  · rw [World.cell?_setCell_other _ _ _ _ (by intro h; cases h; exact e rfl), h1, List.getElem_set_ne e]
theorem ByteRow.conv {w : World} {b : Nat} {l : List UInt8} (h : ByteRow w b l) (cap : Nat) :
    (convert 64 9 (.slice (some ⟨b, 0, none⟩) l.length cap)).run Tryz.prog w = .ok (.string ⟨l.toArray⟩) w :=
  run_convert_bytes_back w 64 9 5 ⟨b, 0, none⟩ cap l Tryz.underlying64 Tryz.underlying5 Tryz.underlying9 (fun j hj => by
    have e : (⟨b, 0, none⟩ : Addr).add j = ⟨b, j, none⟩ := by cases j <;> simp [Addr.add]
    rw [e]; exact (h j hj).1)
end Go.Proofs.YteimllgoelleeaaGreatDoor
/- Slices of numbers; a row of bytes that a make has laid. -/
set_option maxRecDepth 20000
namespace Go.Proofs.YteimllgoelleeaaGreatDoor
open Go.RowKit Go.Deep

def NumsAt (w : World) (p : Option Addr) (L : List Nat) : Prop := ∀ i (h : i < L.length), ∃ a, p = some a ∧ w.cell? (a.add i) = some (.int .i64 (L[i] : Int))
theorem NumsAt.bel {w x : World} {p : Option Addr} {L : List Nat} (h : NumsAt w p L) (hb : Bel w x) : NumsAt x p L := by
  intro i hi
  obtain ⟨a, ha, hc⟩ := h i hi
  exact ⟨a, ha, (Below.cell hb (block_lt_of_cell hc)).trans hc⟩
theorem NumsAt.keep {w x : World} {p : Option Addr} {L : List Nat} {F : List Nat} (h : NumsAt w p L) (hk : Keep F w x) (hF : ∀ a, p = some a → a.block ∉ F) : NumsAt x p L := by
  intro i hi
  obtain ⟨a, ha, hc⟩ := h i hi
  exact ⟨a, ha, hk.cell hc (by rw [add_block]; exact hF a ha)⟩
theorem StrsAt.keep {w x : World} {p : Option Addr} {L : List (List UInt8)} {F : List Nat} (h : StrsAt w p L) (hk : Keep F w x) (hF : ∀ a, p = some a → a.block ∉ F) : StrsAt x p L := by
  intro i hi
  obtain ⟨a, ha, hc⟩ := h i hi
  exact ⟨a, ha, hk.cell hc (by rw [add_block]; exact hF a ha)⟩
theorem ByteRow.made (w : World) (n : Nat) : ByteRow (w.alloc (.cells (madeCells #[.int .u8 0] n) 5)) w.heap.size (zeroL n) := by
  have h := World.rowIs_made w (.int .u8 0) n 5
  intro j hj
  rw [zero_len] at hj
  have h1 := h.cell hj
  have h2 := h.frozen j
  refine ⟨?_, h2⟩
  simp [zeroL] at h1 ⊢
  exact h1
theorem ByteRow.keep {w x : World} {b : Nat} {l : List UInt8} {F : List Nat} (h : ByteRow w b l) (hk : Keep F w x) (hb : b ∉ F) : ByteRow x b l := by
  intro j hj
  obtain ⟨h1, h2⟩ := h j hj
  have hlt : b < w.heap.size := block_lt_of_cell h1
  exact ⟨hk.cell h1 hb, (hk.frozen (p := ⟨b, j, none⟩) hlt hb).trans h2⟩
end Go.Proofs.YteimllgoelleeaaGreatDoor
/- filter.Hash and moultref9.Hash. -/
set_option maxRecDepth 20000
namespace Go.Proofs.YteimllgoelleeaaGreatDoor
open Go.RowKit Go.Deep

def HashRel (s : ByteArray) (v i : Value) : Prop := ∃ k : Nat, k ≤ s.size ∧ i = .int .i64 k ∧ v = .int .u64 (rawN (s.data.toList.take k) : Nat)
theorem raw_snoc (l : List UInt8) (b : UInt8) : rawN (l ++ [b]) = mixN (rawN l) b := by
  unfold rawN
  rw [List.foldl_append, List.foldl_cons, List.foldl_nil]
theorem raw_take (s : ByteArray) (k : Nat) (h : k < s.size) : rawN (s.data.toList.take (k + 1)) = mixN (rawN (s.data.toList.take k)) s[k] := by
  rw [List.take_add_one]
  have e : s.data.toList[k]? = some s[k] := by rw [List.getElem?_eq_getElem (by simpa using h)]; rfl
  rw [e, Option.toList_some, raw_snoc]
theorem raw_all (s : ByteArray) : s.data.toList.take s.size = s.data.toList := by
  have : s.data.toList.length = s.size := rfl
  rw [← this, List.take_length]
theorem wrap9_u64 (x : Int) : IntKind.u64.wrap x = x % 18446744073709551616 := by simp [IntKind.wrap, IntKind.bits, IntKind.signed]
theorem mix_walk (h : Nat) (b : UInt8) (hh : h < 18446744073709551616) : IntKind.u64.wrap (bits .xor .u64 (h : Int) (IntKind.u64.wrap (b.toNat : Int)) * 1099511628211) = (mixN h b : Nat) := by
  have hb := b.toNat_lt
  have e : IntKind.u64.wrap (b.toNat : Int) = (b.toNat : Int) := by rw [wrap9_u64]; omega
  rw [e, u64_xor_nat h b.toNat hh (by omega), wrap9_u64]
  unfold mixN
  generalize h ^^^ b.toNat = c
  omega
theorem fold_walk (h : Nat) (hh : h < 18446744073709551616) : bits .xor .u64 (h : Int) ((h : Int) / 8589934592) = ((h ^^^ (h / 8589934592) : Nat) : Int) := by
  have e : (h : Int) / 8589934592 = ((h / 8589934592 : Nat) : Int) := by omega
  rw [e, u64_xor_nat h (h / 8589934592) hh (by omega)]
theorem hash_end (s : ByteArray) : bits .xor .u64 (rawN s.data.toList : Int) ((rawN s.data.toList : Int) / 8589934592) = (hashN s.data.toList : Nat) := fold_walk _ (rawN_lt _)

set_option maxHeartbeats 1000000 in
theorem hash_any (s : ByteArray) (w : World) (hs : s.size ≤ maxLen) :
    Calls Tryz.prog 121 #[.string s] w fun e w' => e = .returned (.int .u64 (hashN s.data.toList : Nat)) ∧ Drw w w' := by
  unfold maxLen at hs
  go_enter Tryz.func121, Tryz.ntmps121
  go_wp2_with (fail)
  go_loopw [3, 7] (fun h i x => HashRel s h i ∧ Drw w x) (fun _ i _ => s.size - (intOf i).toNat)
  case atStart => exact ⟨⟨0, Nat.zero_le _, rfl, rfl⟩, Drw.refl w⟩
  case round =>
    obtain ⟨⟨k, hk, rfl, rfl⟩, hw⟩ := hrel
    have HW := Lib.hid hw; clear hw
    by_cases hlt : k < s.size
    · go_wp2_with (fail)
      refine ⟨⟨⟨k + 1, hlt, by go_num, ?_⟩, HW.out⟩, by simp [intOf]; omega⟩
      rw [mix_walk _ _ (rawN_lt _), raw_take s k hlt]
    · obtain rfl : k = s.size := by omega
      have HE := Lib.hid (hash_end s)
      have HA := Lib.hid (raw_all s)
      go_wp2_with (fail)
      go_ret
      exact ⟨by rw [HA.out, HE.out]; rfl, HW.out⟩
end Go.Proofs.YteimllgoelleeaaGreatDoor
/- filter.Places and moultref9.Places. -/
namespace Go.Proofs.YteimllgoelleeaaGreatDoor
open Go.RowKit Go.Deep

def PlacesPost (s : List UInt8) (bits : Nat) (w : World) (e : Ending) (w' : World) : Prop :=
  ∃ p cap, e = .returned (.slice p (placesL (hashN s) bits).length cap) ∧ NumsAt w' p (placesL (hashN s) bits) ∧ (∀ a, p = some a → w.heap.size ≤ a.block) ∧ Bel w w'
theorem or_one (h : Nat) (hh : h < 18446744073709551616) : bits .or .u64 ((h : Int) / 4294967296) 1 = (stepN h : Nat) := by
  have e : (h : Int) / 4294967296 = ((h / 4294967296 : Nat) : Int) := by omega
  rw [e, show (1 : Int) = ((1 : Nat) : Int) from rfl, u64_or_nat _ 1 (by omega) (by omega)]
  congr 1
  unfold stepN
  generalize h / 4294967296 = c
  split
  · rename_i h0
    have := nat_join 1 c 1 (by omega) (by decide)
    omega
  · rename_i h0
    have e2 : c = (c - 1) ||| 1 := by rw [nat_join 1 (c - 1) 1 (by omega) (by decide)]; omega
    rw [e2, Nat.or_assoc, Nat.or_self, ← e2]
theorem place_walk {h k m : Nat} (hh : h < 18446744073709551616) (hk : k < 4) (hm : 1 ≤ m) (hm2 : m ≤ 9223372036854775807) :
    wrap64 ((IntKind.u64.wrap ((h : Int) % 4294967296 + IntKind.u64.wrap ((k : Int) * (stepN h : Nat)))).tmod (m : Int)) = (placeN h m k : Nat) := by
  have hs := step_le h hh
  have hks : k * stepN h ≤ 3 * 4294967296 := Nat.mul_le_mul (by omega) hs
  have e1 : (k : Int) * (stepN h : Nat) = ((k * stepN h : Nat) : Int) := by simp
  unfold placeN
  rw [e1]
  generalize k * stepN h = z at hks
  have e2 : IntKind.u64.wrap ((h : Int) % 4294967296 + IntKind.u64.wrap (z : Int)) = ((h % 4294967296 + z : Nat) : Int) := by
    rw [wrap9_u64, wrap9_u64]; omega
  rw [e2]
  generalize h % 4294967296 + z = q
  have e3 : ((q : Nat) : Int).tmod (m : Int) = ((q % m : Nat) : Int) := by rw [Int.tmod_eq_emod_of_nonneg (by omega)]; omega
  rw [e3]
  have : q % m < m := Nat.mod_lt _ hm
  unfold wrap64
  omega
theorem infoInt9 : (Tryz.prog.info? 3).map (fun i => (i.zero, i.size, i.bytes)) = some (some (.int .i64 0), 1, 8) := by kernel_rfl
def PlcRel (h n B : Nat) (w : World) (i : Value) (x : World) : Prop := ∃ k : Nat, k ≤ 4 ∧ i = .int .i64 k ∧
  x.rowIs B 3 4 (fun j => if j < k then .int .i64 (placeN h n j : Nat) else .int .i64 0) ∧ Bel w x
set_option maxHeartbeats 1000000 in
set_option maxRecDepth 20000 in
theorem places_any (s : ByteArray) (n : Int) (w : World) (hs : s.size ≤ maxLen) (hn : -9223372036854775808 ≤ n ∧ n ≤ 9223372036854775807) :
    Calls Tryz.prog 100 #[.string s, .int .i64 n] w (PlacesPost s.data.toList n.toNat w) := by
  unfold maxLen at hs
  by_cases h1 : n < 1
  · go_enter Tryz.func100, Tryz.ntmps100
    go_wp2_with (fail)
    go_ret
    have e : n.toNat = 0 := by omega
    rw [e]
    exact ⟨none, 0, by rw [places_zero]; rfl, fun i hi => (by rw [places_zero] at hi; simp at hi), ⟨fun a h => (by cases h), Bel.refl w⟩⟩
  · obtain ⟨m, rfl⟩ : ∃ m : Nat, n = m := ⟨n.toNat, by omega⟩
    have hm : 1 ≤ m := by omega
    have HH := Lib.hid (hash_lt s.data.toList)
    go_enter Tryz.func100, Tryz.ntmps100
    go_wp2_with (fail)
    refine (hash_any s w hs).mono ?_
    rintro e w1 ⟨rfl, hd⟩
    have HD := Lib.hid hd; clear hd
    obtain ⟨h, hh⟩ : ∃ h, h = hashN s.data.toList := ⟨_, rfl⟩
    rw [← hh] at HH ⊢
    have HE := Lib.hid hh; clear hh
    have hO := or_one h HH.out
    have hmk : (Instr.makeSlice 179 (.int .i64 4) (.int .i64 4)).run Tryz.prog w1 = .ok (.slice (some ⟨w1.heap.size, 0, none⟩) 4 4) (w1.alloc (.cells (madeCells #[.int .i64 0] 4) 3)) :=
      run_make_row' (P := Tryz.prog) 179 3 (.int .i64 0) 8 Tryz.underlying179 infoInt9 rfl .i64 .i64 4 (by omega) (by omega) w1
    go_wp2_with (fail)
    go_loopw [23] (fun i x => PlcRel h m w1.heap.size w i x) (fun i _ => 4 - (intOf i).toNat)
    case atStart => exact ⟨0, by omega, rfl, (World.rowIs_made w1 (.int .i64 0) 4 3).congr fun j hj => by rw [if_neg (by omega)], HD.out.bel.alloc _⟩
    case round =>
      obtain ⟨k, hk, rfl, hrow, hb⟩ := hrel
      have HR := Lib.hid hrow; clear hrow
      have HB := Lib.hid hb; clear hb
      by_cases hlt : k < 4
      · have hc := HR.out.cell (i := k) (by omega)
        have hf := HR.out.frozen k
        go_wp2_with (fail)
        go_roundw
        case rel =>
          refine ⟨k + 1, by omega, by go_num, ?_, HB.out.setCell (HD.out.bel.size) _⟩
          refine (HR.out.set k _).congr fun i hi => ?_
          by_cases e : i = k
          · subst e
            rw [if_pos rfl, if_pos (by omega), place_walk HH.out hlt hm (by omega)]
          · rw [if_neg e]
            by_cases e2 : i < k
            · rw [if_pos e2, if_pos (by omega)]
            · rw [if_neg e2, if_neg (by omega)]
        case measure => simp [intOf]; omega
      · obtain rfl : k = 4 := by omega
        go_wp2_with (fail)
        go_ret
        have hne : m ≠ 0 := by omega
        rw [PlacesPost, Int.toNat_natCast, ← HE.out]
        refine ⟨some ⟨w1.heap.size, 0, none⟩, 4, by rw [places_len hne]; rfl, fun i hi => ⟨_, rfl, ?_⟩, fun a ha => ?_, HB.out⟩
        · rw [places_len hne] at hi
          have hg := places_get (h := h) hne i hi
          have e : (⟨w1.heap.size, 0, none⟩ : Addr).add i = ⟨w1.heap.size, i, none⟩ := by cases i <;> simp [Addr.add]
          rw [List.getElem?_eq_getElem (by rw [places_len hne]; exact hi)] at hg
          rw [e, HR.out.cell hi, if_pos hi, Option.some.inj hg]
        · cases ha; exact HD.out.bel.size

end Go.Proofs.YteimllgoelleeaaGreatDoor
/- filter.mask, filter.eachPlace. -/
set_option maxRecDepth 20000
namespace Go.Proofs.YteimllgoelleeaaGreatDoor
open Go.RowKit Go.Deep

set_option maxHeartbeats 1000000 in
theorem mask_any (i : Nat) (w : World) (hi : i ≤ maxLen) :
    Calls Tryz.prog 101 #[.int .i64 i] w fun e w' => e = .returned (.int .u8 (2 ^ (i % 8) : Nat)) ∧ w' = w := by
  unfold maxLen at hi
  go_enter Tryz.func101, Tryz.ntmps101
  go_wp2_with (fail)
  go_ret
  refine ⟨?_, rfl⟩
  have h1 : 2 ^ (i % 8) ≤ 2 ^ 7 := Nat.pow_le_pow_right (by omega) (by omega)
  have h2 : (2 : Int) ^ (i % 8) = ((2 ^ (i % 8) : Nat) : Int) := by simp
  have h3 : (2 : Int) ^ (i % 8) % 256 = ((2 ^ (i % 8) : Nat) : Int) := by
    rw [h2]
    generalize 2 ^ (i % 8) = z at h1
    have : z ≤ 128 := h1
    omega
  show Ending.returned (.int .u8 ((2 : Int) ^ (i % 8) % 256)) = _
  rw [h3]

set_option maxHeartbeats 1000000 in
theorem each_any (key : ByteArray) (n : Nat) (g : Nat) (rv : Value) (I : Nat → World → Prop) (F : List Nat) (w : World) (hk : key.size ≤ maxLen) (hn : 8 * n ≤ maxLen) (hF : ∀ k ∈ F, k < w.heap.size)
    (hI : ∀ k x y, I k x → Bel x y → I k y) (h0 : I 0 w)
    (hcall : ∀ (v : Value) (x : World), (callFunc g #[rv, v]).run Tryz.prog x = .ok (.enter g #[rv, v]) x)
    (hc : ∀ (k : Nat) (hk : k < (placesL (hashN key.data.toList) (8 * n)).length) (x : World), Keep F w x → I k x →
      Calls Tryz.prog g #[rv, .int .i64 ((placesL (hashN key.data.toList) (8 * n))[k] : Nat)] x fun e x' => e = .returned (.tuple #[]) ∧ I (k + 1) x' ∧ Keep F x x') :
    Calls Tryz.prog 75 #[.string key, .int .i64 n, .func (.func g) #[rv] #[]] w fun e w' => e = .returned (.tuple #[]) ∧ I (placesL (hashN key.data.toList) (8 * n)).length w' ∧ Keep F w w' := by
  have hl4 : (placesL (hashN key.data.toList) (8 * n)).length ≤ 4 := by unfold placesL; split <;> simp
  generalize hL : placesL (hashN key.data.toList) (8 * n) = L at *
  have HL := Lib.hid hL; clear hL
  have HC := Lib.hid hc; clear hc
  have HCL := Lib.hid hcall
  unfold maxLen at hk hn
  go_enter Tryz.func75, Tryz.ntmps75
  go_wp2_with (fail)
  refine (places_any key (8 * (n : Int)) w (by unfold maxLen; omega) (by omega)).mono ?_
  rw [show (8 * (n : Int)).toNat = 8 * n by omega]
  unfold PlacesPost
  rw [HL.out]
  rintro e w1 ⟨p, cap, rfl, hat, hp, hb⟩
  have HAT := Lib.hid hat
  have HP := Lib.hid hp
  have HB := Lib.hid hb
  have h1 := Lib.hid (hI _ _ _ h0 hb)
  clear hat hp hb h0
  go_wp2_with (fail)
  go_loopw [13] (fun iv x => ∃ k : Nat, k ≤ L.length ∧ iv = .int .i64 k ∧ I k x ∧ Keep F w1 x) (fun iv _ => L.length - (intOf iv).toNat)
  case atStart => exact ⟨0, Nat.zero_le _, rfl, h1.out, Keep.refl _ _⟩
  case round =>
    obtain ⟨k, hk, rfl, hi, hkp⟩ := hrel
    have HIK := Lib.hid hi; clear hi
    have HK := Lib.hid hkp
    by_cases hlt : k < L.length
    · obtain ⟨a, rfl, hc⟩ := (HAT.out.keep hkp (fun a ha hm => by have := HP.out a ha; have := hF _ hm; omega)) k hlt
      clear hkp
      have hcl := HCL.out (.int .i64 (L[k] : Nat)) wr
      go_wp2_with (fail)
      refine (HC.out k hlt wr ((Keep.of_bel HB.out F).trans HK.out (fun x hx => Or.inl hx)) HIK.out).mono ?_
      rintro e w2 ⟨rfl, hi2, hk2⟩
      have HI2 := Lib.hid hi2
      have HK2 := Lib.hid (HK.out.trans hk2 (fun x hx => Or.inl hx))
      clear hi2 hk2
      go_wp2_with (fail)
      go_roundw
      case rel => exact ⟨k + 1, hlt, by go_num, HI2.out, HK2.out⟩
      case measure => simp [intOf]; omega
    · obtain rfl : k = L.length := by omega
      clear hkp
      go_wp2_with (fail)
      go_end0
      exact ⟨rfl, HIK.out, (Keep.of_bel HB.out F).trans HK.out (fun x hx => Or.inl hx)⟩
end Go.Proofs.YteimllgoelleeaaGreatDoor
/- (*filter.draft).set, (*filter.probe).test. -/
set_option maxRecDepth 20000
namespace Go.Proofs.YteimllgoelleeaaGreatDoor
open Go.RowKit Go.Deep

theorem or_walk (L : List UInt8) (i : Nat) : bits .or .u8 ((byteN L (i / 8) : Nat) : Int) ((2 ^ (i % 8) : Nat) : Int) = ((UInt8.ofNat (byteN L (i / 8) ||| 2 ^ (i % 8))).toNat : Int) := by
  have h1 : 2 ^ (i % 8) ≤ 2 ^ 7 := Nat.pow_le_pow_right (by omega) (by omega)
  have h2 := or_byte L (i / 8) i
  rw [u8_or_nat _ _ (byteN_lt L _) (by omega), UInt8.toNat_ofNat', Nat.mod_eq_of_lt h2]
theorem mask_at (i m : Nat) (w : World) (hi : i ≤ 8000000000) (hm : m = 2 ^ (i % 8)) :
    Calls Tryz.prog 101 #[.int .i64 i] w fun e w' => e = .returned (.int .u8 (m : Int)) ∧ w' = w := by
  subst hm; exact mask_any i w (by unfold maxLen; omega)
set_option maxHeartbeats 2000000 in
theorem set_any (d b cap : Nat) (L : List UInt8) (i : Nat) (w : World) (hd : w.cell? ⟨d, 0, none⟩ = some (.slice (some ⟨b, 0, none⟩) L.length cap)) (hr : ByteRow w b L) (hi : i < 8 * L.length) (hl : L.length ≤ 1000000) :
    Calls Tryz.prog 76 #[.pointer (some ⟨d, 0, none⟩), .int .i64 i] w fun e w' => e = .returned (.tuple #[]) ∧ ByteRow w' b (setN L i) ∧ Keep [b] w w' := by
  have HR := Lib.hid hr
  have HS := Lib.hid (show setN L i = L.set (i / 8) (UInt8.ofNat (byteN L (i / 8) ||| 2 ^ (i % 8))) from rfl)
  have hOW := or_walk L i
  have hqi : (i : Int) / 8 = ((i / 8 : Nat) : Int) := by omega
  have hql : i / 8 < L.length := by omega
  have hc : w.cell? ⟨b, i / 8, none⟩ = some (.int .u8 ((byteN L (i / 8) : Nat) : Int)) := by rw [byte_get hql]; exact (hr _ hql).1
  have hf := (hr _ hql).2
  obtain ⟨m, hm⟩ : ∃ m, m = 2 ^ (i % 8) := ⟨_, rfl⟩
  rw [← hm] at HS hOW
  have HM := Lib.hid hm; clear hm
  generalize i / 8 = q at *
  generalize byteN L q = x0 at *
  generalize UInt8.ofNat (x0 ||| m) = x1 at *
  have hqli : (q : Int) < (L.length : Int) := by omega
  have hqw : IntKind.i64.wrap (q : Int) = q := by rw [IntKind.wrap_i64]; omega
  have hiw : IntKind.i64.wrap (i : Int) = i := by rw [IntKind.wrap_i64]; omega
  clear hr
  go_enter Tryz.func76, Tryz.ntmps76
  go_wp2_with (fail)
  refine wp_region_still_tail 12 (by kernel_rfl) (by kernel_rfl) ?_
  change wpStill _ _ (World.drew _) _ _ _
  simp only [List.take_succ_cons, List.take_zero, List.drop_succ_cons, List.drop_zero]
  still_step
  still_step
  still_step
  still_step
  still_step
  still_step
  still_step
  still_step
  still_step
  still_call ((mask_at i m _ (by omega) HM.out).mono fun _ _ h => ⟨h.1, h.2⟩)
  still_step
  still_step
  refine wpStill_nil ?_
  change wpList _ _ _ _ _ (World.drew _)
  go_wp2_with (fail)
  go_end0
  exact ⟨rfl, by rw [HS.out]; exact (HR.out.set q hql x1).bel (Bel.refl _).drew, ((Keep.refl _ w).setCell (Or.inl (by simp)) _).drew⟩

def ProbeAt (w : World) (P : Nat) (f : ByteArray) (b : Bool) : Prop :=
  w.cell? ⟨P, 0, none⟩ = some (.string f) ∧ w.cell? ⟨P, 1, none⟩ = some (.bool b) ∧ w.frozen? ⟨P, 1, none⟩ = false
theorem ProbeAt.bel {w x : World} {P : Nat} {f : ByteArray} {b : Bool} (h : ProbeAt w P f b) (hb : Bel w x) : ProbeAt x P f b := by
  obtain ⟨h1, h2, h3⟩ := h
  have hlt : P < w.heap.size := block_lt_of_cell h1
  exact ⟨(hb.cell P 0 hlt).trans h1, (hb.cell P 1 hlt).trans h2, (hb.frozen P 1 hlt).trans h3⟩
end Go.Proofs.YteimllgoelleeaaGreatDoor
/- filter.May, filter.Build. -/
set_option maxRecDepth 20000
namespace Go.Proofs.YteimllgoelleeaaGreatDoor
open Go.RowKit Go.Deep

theorem run_enter9 {f : FuncId} {fn : Func} {c : Code} (hf : Tryz.prog.funcs[f]? = some fn) (hname : (fn.name == "runtime.NumGoroutine") = false) (hb : fn.body = some c) (args : Array Value) (w : World) : (callFunc f args).run Tryz.prog w = .ok (.enter f args) w := by
  have h1 : fn.name ≠ "runtime.NumGoroutine" := by simpa using hname
  simp [callFunc, hf, h1, hb]
theorem bits_take (L : List (List UInt8)) (n k : Nat) (h : k < L.length) : bitsF (L.take (k + 1)) n = bitsF (L.take k) n ++ placesL (hashN L[k]) (8 * n) := by
  unfold bitsF
  rw [List.take_add_one, List.getElem?_eq_getElem h, Option.toList_some, List.flatMap_append, List.flatMap_singleton]
theorem setAll_app (L : List UInt8) (a b : List Nat) : setAll L (a ++ b) = setAll (setAll L a) b := by unfold setAll; rw [List.foldl_append]
theorem setAll_take (L : List UInt8) (a : List Nat) (k : Nat) (h : k < a.length) : setAll L (a.take (k + 1)) = setN (setAll L (a.take k)) a[k] := by
  rw [List.take_add_one, List.getElem?_eq_getElem h, Option.toList_some, setAll_app]
  rfl
def strSmall (m : Nat) (L : List (List UInt8)) : Prop := ∀ i (h : i < L.length), L[i].length ≤ m
theorem infoByte9 : (Tryz.prog.info? 5).map (fun i => (i.zero, i.size, i.bytes)) = some (some (.int .u8 0), 1, 1) := by kernel_rfl
def DraftAt (w : World) (D B n : Nat) (l : List UInt8) : Prop :=
  w.cell? ⟨D, 0, none⟩ = some (.slice (some ⟨B, 0, none⟩) n n) ∧ ByteRow w B l ∧ D ≠ B
theorem DraftAt.bel {w x : World} {D B n : Nat} {l : List UInt8} (h : DraftAt w D B n l) (hb : Bel w x) : DraftAt x D B n l := by
  obtain ⟨h1, h2, h3⟩ := h
  exact ⟨(hb.cell D 0 (block_lt_of_cell h1)).trans h1, h2.bel hb, h3⟩
set_option maxHeartbeats 2000000 in
theorem fbuild_any (p : Option Addr) (cap : Nat) (L : List (List UInt8)) (w : World) (h : StrsAt w p L) (hL : L.length ≤ 100000) (hs : strSmall maxLen L) :
    Calls Tryz.prog 50 #[.slice p L.length cap] w fun e w' => e = .returned (.string ⟨(buildF L).toArray⟩) ∧ Bel w w' := by
  by_cases h0 : L = []
  · subst h0
    go_enter Tryz.func50, Tryz.ntmps50
    go_wp2_with (fail)
    go_ret
    exact ⟨rfl, Bel.refl w⟩
  have hl0 : L.length ≠ 0 := fun e => h0 (List.length_eq_zero_iff.1 e)
  have hl0' : ((L.length : Int) == 0) = false := by rw [beq_eq_false_iff_ne]; omega
  have HF := Lib.hid (show buildF L = setAll (zeroL (sizeF L.length)) (bitsF L (sizeF L.length)) from if_neg h0)
  have HSZ := Lib.hid (show sizeF L.length ≤ 150008 by unfold sizeF; omega)
  have hmx : (if (8 : Int) < (L.length : Int) + ((L.length : Int) + 1) / 2 then (L.length : Int) + ((L.length : Int) + 1) / 2 else 8) = (sizeF L.length : Nat) := by unfold sizeF; split <;> omega
  have HN := Lib.hid h0
  have HH := Lib.hid h; clear h
  have HSM := Lib.hid hs; clear hs h0
  generalize sizeF L.length = n at *
  have hmk := run_make_row' (P := Tryz.prog) 64 5 (.int .u8 0) 1 Tryz.underlying64 infoByte9 rfl .i64 .i64 n (by have := HSZ.out; omega) (by have := HSZ.out; omega)
  have HA := Lib.hid (show DraftAt ((w.alloc (.cells (madeCells #[.int .u8 0] n) 5)).alloc (.cells #[.slice (some ⟨w.heap.size, 0, none⟩) n n] 149)) (w.heap.size + 1) w.heap.size n (zeroL n) by
    refine ⟨?_, (ByteRow.made w n).bel ((Bel.refl _).alloc _), by omega⟩
    have hnew := heap_alloc_new (w.alloc (.cells (madeCells #[.int .u8 0] n) 5)) (.cells #[.slice (some ⟨w.heap.size, 0, none⟩) n n] 149)
    rw [show (w.alloc (.cells (madeCells #[.int .u8 0] n) 5)).heap.size = w.heap.size + 1 by simp] at hnew
    simp only [World.cell?, hnew]; rfl)
  have HB := Lib.hid (((Bel.refl w).alloc (.cells (madeCells #[.int .u8 0] n) 5)).alloc (.cells #[.slice (some ⟨w.heap.size, 0, none⟩) n n] 149))
  have hbsz : w.heap.size < ((w.alloc (.cells (madeCells #[.int .u8 0] n) 5)).alloc (.cells #[.slice (some ⟨w.heap.size, 0, none⟩) n n] 149)).heap.size := by simp; omega
  have HBS := Lib.hid hbsz
  clear hbsz
  go_enter Tryz.func50, Tryz.ntmps50
  go_wp2_with (fail)
  go_loopw [21] (fun iv x => ∃ k : Nat, k ≤ L.length ∧ iv = .int .i64 k ∧ DraftAt x (w.heap.size + 1) w.heap.size n (setAll (zeroL n) (bitsF (L.take k) n)) ∧ Bel w x) (fun iv _ => L.length - (intOf iv).toNat)
  case atStart => exact ⟨0, Nat.zero_le _, rfl, HA.out, HB.out⟩
  case round =>
    obtain ⟨k, hk, rfl, hd, hb⟩ := hrel
    have HD := Lib.hid hd
    have HBk := Lib.hid hb
    by_cases hlt : k < L.length
    · obtain ⟨a, rfl, hc⟩ := (HH.out.bel hb) k hlt
      obtain ⟨hdc, -, -⟩ := hd
      have HKL := Lib.hid (show (⟨L[k].toArray⟩ : ByteArray).size ≤ maxLen by show L[k].toArray.size ≤ _; rw [List.size_toArray]; exact HSM.out k hlt)
      have HKE := Lib.hid (show (⟨L[k].toArray⟩ : ByteArray).data.toList = L[k] by simp)
      obtain ⟨key, hkey⟩ : ∃ key : ByteArray, key = ⟨L[k].toArray⟩ := ⟨_, rfl⟩
      rw [← hkey] at hc HKL HKE
      clear hkey hb
      have hsw : w.heap.size < wr.heap.size := by have := HBk.out.size; have := block_lt_of_cell hdc; simp at this; omega
      have HSW := Lib.hid hsw; clear hsw
      go_wp2_with (fail)
      refine (each_any key n 76 (.pointer (some ⟨w.heap.size + 1, 0, none⟩)) (fun j x => DraftAt x (w.heap.size + 1) w.heap.size n (setAll (setAll (zeroL n) (bitsF (L.take k) n)) ((placesL (hashN key.data.toList) (8 * n)).take j))) [w.heap.size] wr HKL.out (by have := HSZ.out; unfold maxLen; omega) (fun b hb => by rw [List.mem_singleton] at hb; subst hb; exact HSW.out) (fun j x y h hb => h.bel hb) HD.out
        (fun v x => run_enter9 Tryz.func76 (by kernel_rfl) rfl _ x) (fun j hj x _ hI => ?_)).mono ?_
      · obtain ⟨h1, h2, h3⟩ := hI
        have hln : (setAll (setAll (zeroL n) (bitsF (L.take k) n)) ((placesL (hashN key.data.toList) (8 * n)).take j)).length = n := by rw [setAll_len, setAll_len, zero_len]
        refine (set_any (w.heap.size + 1) w.heap.size n _ _ x (by rw [hln]; exact h1) h2 (by rw [hln]; exact places_lt (List.getElem_mem hj)) (by rw [hln]; have := HSZ.out; omega)).mono ?_
        rintro e x' ⟨rfl, h4, h5⟩
        refine ⟨rfl, ⟨h5.cell h1 (by rw [List.mem_singleton]; exact h3), ?_, h3⟩, h5⟩
        rw [setAll_take _ _ _ hj]; exact h4
      · rintro e w2 ⟨rfl, hd2, hk2⟩
        rw [List.take_length, ← setAll_app, HKE.out, ← bits_take L n k hlt] at hd2
        have HD2 := Lib.hid hd2
        have HB2 := Lib.hid (show Bel w w2 from HBk.out.trans_below (hk2.below HBk.out.size (fun b hb => by rw [List.mem_singleton] at hb; subst hb; exact Nat.le_refl _)))
        clear hd2 hk2
        go_wp2_with (fail)
        go_roundw
        case rel => exact ⟨k + 1, hlt, by go_num, HD2.out, HB2.out⟩
        case measure => simp [intOf]; omega
    · obtain rfl : k = L.length := by omega
      rw [List.take_length, ← HF.out] at hd
      obtain ⟨hdc, hrow, -⟩ := hd
      have hln : (buildF L).length = n := by rw [HF.out, setAll_len, zero_len]
      have hcv := hrow.conv n
      rw [hln] at hcv
      clear hrow hb hln
      go_wp2_with (fail)
      go_ret
      exact ⟨rfl, HBk.out⟩
end Go.Proofs.YteimllgoelleeaaGreatDoor
/- moultref9.Build, moultref9.May. -/
set_option maxRecDepth 20000
namespace Go.Proofs.YteimllgoelleeaaGreatDoor
open Go.RowKit Go.Deep

theorem all_take (f : List UInt8) (L : List Nat) (k : Nat) (h : k < L.length) : (L.take (k + 1)).all (bitN f) = ((L.take k).all (bitN f) && bitN f L[k]) := by
  rw [List.take_add_one, List.getElem?_eq_getElem h, Option.toList_some, List.all_append]
  simp
end Go.Proofs.YteimllgoelleeaaGreatDoor
