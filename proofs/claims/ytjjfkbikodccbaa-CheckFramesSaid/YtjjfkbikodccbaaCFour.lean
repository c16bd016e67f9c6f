/- check.closing and moultref5.four: a sum's four bytes. -/
import Derived.Test.YtjjfkbikodccbaaCSum
import Derived.Test.YtjjfkbikodccbaaCFrame
import Derived.Test.YtjjfkbikodccbaaOwn
import Derived.Test.YtjjfkbikodccbaaVTake
import Derived.Test.YtjjfkbikodccbaaVRTake
set_option linter.unusedSimpArgs false
set_option linter.unusedVariables false
namespace Go.Proofs.Ytjjfkbikodccbaa
open Go.RowKit Go.Deep

theorem big_four (n : Nat) (hn : n < 4294967296) : Lib.byteCells (bigL n 4) = [.int .u8 ((n : Int) / 16777216), .int .u8 ((n : Int) / 65536 % 256), .int .u8 ((n : Int) / 256 % 256), .int .u8 ((n : Int) % 256)] := by
  simp only [bigL, Lib.byteCells, List.nil_append, List.cons_append, List.map_cons, List.map_nil, UInt8.toNat_ofNat']
  simp only [List.cons.injEq, Value.int.injEq, true_and, and_true]
  refine ⟨?_, ?_, ?_, ?_⟩ <;> omega
theorem conv_four (W : World) (n : Nat) (hn : n < 4294967296) :
    (convert 38 9 (.slice (some ⟨W.heap.size, 0, none⟩) 4 4)).run Try.prog (W.alloc (.cells #[.int .u8 ((n : Int) / 16777216), .int .u8 ((n : Int) / 65536 % 256), .int .u8 ((n : Int) / 256 % 256), .int .u8 ((n : Int) % 256)] 5)) =
      .ok (.string ⟨(bigL n 4).toArray⟩) (W.alloc (.cells #[.int .u8 ((n : Int) / 16777216), .int .u8 ((n : Int) / 65536 % 256), .int .u8 ((n : Int) / 256 % 256), .int .u8 ((n : Int) % 256)] 5)) := by
  have h := own_new 0 W #[.int .u8 ((n : Int) / 16777216), .int .u8 ((n : Int) / 65536 % 256), .int .u8 ((n : Int) / 256 % 256), .int .u8 ((n : Int) % 256)] (bigL n 4) (by rw [big_four n hn]) (Nat.zero_le _) (by rw [bigL_len]; omega)
  rw [bigL_len] at h
  exact own_string h

set_option maxHeartbeats 2000000 in
theorem closing_any (s : ByteArray) (w : World) (hs : s.size ≤ maxLen) :
    Calls Try.prog 21 #[.string s] w fun e w' => e = .returned (.string ⟨(bigL (crcN s.data.toList) 4).toArray⟩) ∧ Bel w w' := by
  have hl := crc_lt s.data.toList
  go_enter Try.func21, Try.ntmps21
  go_wp2_with (fail)
  refine (sum5_any s w hs).mono ?_
  rintro e w1 ⟨rfl, hd⟩
  have HB := Lib.hid hd.bel; clear hd
  have hcv := conv_four w1 (crcN s.data.toList) hl
  go_wp2_with (fail)
  go_ret
  exact ⟨rfl, HB.out.alloc _⟩
set_option maxHeartbeats 2000000 in
theorem four_any (n : Nat) (w : World) (hn : n < 4294967296) :
    Calls Try.prog 23 #[.int .u32 n] w fun e w' => e = .returned (.string ⟨(bigL n 4).toArray⟩) ∧ Bel w w' := by
  have hcv := conv_four w n hn
  go_enter Try.func23, Try.ntmps23
  go_wp2_with (fail)
  go_ret
  exact ⟨rfl, (Bel.refl w).alloc _⟩

def frameV (l : List UInt8) : Value := .tuple #[.string ⟨(frameL l).toArray⟩, .int .i64 0]
def longV : Value := .tuple #[.string ⟨#[]⟩, .int .i64 10]
theorem ba_frame (s : ByteArray) : (⟨(putL s.size).toArray⟩ ++ s ++ ⟨(bigL (crcN s.data.toList) 4).toArray⟩ : ByteArray) = ⟨(frameL s.data.toList).toArray⟩ := by
  apply ByteArray.ext
  simp [frameL]

set_option maxHeartbeats 2000000 in
theorem frame_long (s : ByteArray) (w : World) (hs : s.size ≤ maxLen) (h : 40000 < s.size) :
    Calls Try.prog 10 #[.string s] w fun e w' => e = .returned longV ∧ Bel w w' := by
  unfold maxLen at hs
  go_enter Try.func10, Try.ntmps10
  go_wp2_with (fail)
  go_ret2
  exact ⟨rfl, Bel.refl w⟩
set_option maxHeartbeats 2000000 in
theorem frame_ok (s : ByteArray) (w : World) (h : s.size ≤ 40000) :
    Calls Try.prog 10 #[.string s] w fun e w' => e = .returned (frameV s.data.toList) ∧ Bel w w' := by
  have hz9 := szN_le s.size
  have hp := putL_len s.size
  have h4 := bigL_len 4 (crcN s.data.toList)
  go_enter Try.func10, Try.ntmps10
  go_wp2_with (fail)
  refine (put_any s.size w (by omega)).mono ?_
  rintro e w1 ⟨rfl, hb⟩
  have HB := Lib.hid hb; clear hb
  have hz1 : (⟨(putL s.size).toArray⟩ : ByteArray).size = szN s.size := by show (putL s.size).toArray.size = _; rw [List.size_toArray, hp]
  go_wp2_with (fail)
  refine (closing_any s w1 (by unfold maxLen; omega)).mono ?_
  rintro e w2 ⟨rfl, hb⟩
  replace HB := Lib.hid (HB.out.trans hb); clear hb
  go_wp2_with (fail)
  go_ret2
  exact ⟨by rw [frameV, ← ba_frame]; rfl, HB.out⟩
set_option maxHeartbeats 2000000 in
theorem rframe_ok (s : ByteArray) (w : World) (h : s.size ≤ 40000) :
    Calls Try.prog 11 #[.string s] w fun e w' => e = .returned (frameV s.data.toList) ∧ Bel w w' := by
  have hz9 := szN_le s.size
  have hp := putL_len s.size
  have h4 := bigL_len 4 (crcN s.data.toList)
  go_enter Try.func11, Try.ntmps11
  go_wp2_with (fail)
  refine (rput_any s.size w (by omega)).mono ?_
  rintro e w1 ⟨rfl, hb⟩
  have HB := Lib.hid hb; clear hb
  have hz1 : (⟨(putL s.size).toArray⟩ : ByteArray).size = szN s.size := by show (putL s.size).toArray.size = _; rw [List.size_toArray, hp]
  go_wp2_with (fail)
  refine (rsum5_any s w1 (by unfold maxLen; omega)).mono ?_
  rintro e w2 ⟨rfl, hb⟩
  replace HB := Lib.hid (HB.out.trans hb.bel); clear hb
  go_wp2_with (fail)
  refine (four_any _ w2 (crc_lt _)).mono ?_
  rintro e w3 ⟨rfl, hb⟩
  replace HB := Lib.hid (HB.out.trans hb); clear hb
  go_wp2_with (fail)
  go_ret2
  exact ⟨by rw [frameV, ← ba_frame]; rfl, HB.out⟩

/-- Whether some bytes begin with others. -/
theorem prefix0_any (s t : ByteArray) (w : World) (hs : s.size ≤ 1000000) (ht : t.size ≤ s.size) :
    Calls Try.prog 35 #[.string s, .string t] w fun e w' => e = .returned (.bool ((s.extract 0 t.size).toList == t.toList)) ∧ Bel w w' := by
  go_enter Try.func35, Try.ntmps35
  go_wp2_with (fail)
  go_ret
  exact ⟨rfl, Bel.refl w⟩
theorem prefix_any (s t : ByteArray) (w : World) (hs : s.size ≤ 1000000) (ht : t.size ≤ s.size) :
    Calls Try.prog 26 #[.string s, .string t] w fun e w' => e = .returned (.bool ((s.extract 0 t.size).toList == t.toList)) ∧ Bel w w' := by
  go_enter Try.func26, Try.ntmps26
  go_wp2_with (fail)
  refine (prefix0_any s t w hs ht).mono ?_
  rintro e w1 ⟨rfl, hb⟩
  have HB := Lib.hid hb; clear hb
  go_wp2_with (fail)
  go_ret
  exact ⟨rfl, HB.out⟩
end Go.Proofs.Ytjjfkbikodccbaa
