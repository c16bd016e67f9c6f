/- CSeq, JBat, JUnb, JRUnb, laid together. -/
import Derived.Test.YtlmlcnbgdaiaeaaGreatDoorT17
import Derived.Test.YtlmlcnbgdaiaeaaGreatDoorT6
import Derived.Test.YtlmlcnbgdaiaeaaGreatDoorT14
import Derived.Test.YtlmlcnbgdaiaeaaGreatDoorT3
import Derived.Test.YtlmlcnbgdaiaeaaGreatDoorT2
import Derived.Test.YtlmlcnbgdaiaeaaGreatDoorT7
import Derived.Sort.WalkA6
set_option linter.unusedSimpArgs false
set_option linter.unusedVariables false
/- Slices of texts; what check.frames tells of some bytes (seqL), one frame or one error at a time; moultref5.Scan walked. -/
namespace Go.Proofs.YtlmlcnbgdaiaeaaGreatDoor
open Go.RowKit Go.Deep

def StrsAt (w : World) (p : Option Addr) (L : List (List UInt8)) : Prop := ∀ i (h : i < L.length), ∃ a, p = some a ∧ w.cell? (a.add i) = some (.string ⟨L[i].toArray⟩)
theorem StrsAt.bel {w x : World} {p : Option Addr} {L : List (List UInt8)} (h : StrsAt w p L) (hb : Bel w x) : StrsAt x p L := by
  intro i hi
  obtain ⟨a, ha, hc⟩ := h i hi
  exact ⟨a, ha, (Below.cell hb (block_lt_of_cell hc)).trans hc⟩
theorem ownG_strs {B : Nat} {w : World} {v : Value} {L : List (List UInt8)} (h : OwnG strEl B w v L) : ∃ p cap, v = .slice p L.length cap ∧ StrsAt w p L := by
  by_cases hL : L = []
  · subst hL
    obtain ⟨p, cap, hv⟩ := ownG_len h
    exact ⟨p, cap, hv, fun i hi => by simp at hi⟩
  · obtain ⟨g, cap, hv, _, _, _, hc⟩ := ownG_cells strOk h hL
    refine ⟨_, cap, hv, fun i hi => ⟨_, rfl, ?_⟩⟩
    have := hc i L[i] (List.getElem?_eq_getElem hi) 0 _ rfl
    have e : (⟨g, 0, none⟩ : Addr).add i = ⟨g, i * strEl.n + 0, none⟩ := by cases i <;> simp [Addr.add, strEl]
    rw [e]; exact this

structure CF where
  t : List UInt8
  k : Nat
  e : Int
def seqF : Nat → List UInt8 → List CF
  | 0, _ => []
  | f + 1, s => if s = [] then [] else if (unframeL s).2.2 = 0 then ⟨(unframeL s).1, s.length - (unframeL s).2.1.length, 0⟩ :: seqF f (unframeL s).2.1 else [⟨[], 0, (unframeL s).2.2⟩]
def seqL (s : List UInt8) : List CF := seqF s.length s
def ScanPost (s : List UInt8) (w : World) (e : Ending) (w' : World) : Prop :=
  ∃ v, e = .returned (.tuple #[v, .int .i64 ((scanL s).2.1 : Nat), .int .i64 (scanL s).2.2]) ∧ OwnG strEl w.heap.size w' v (scanL s).1 ∧ Bel w w'
def strLen : Value → Nat
  | .string s => s.size
  | _ => 0
def RSRel (s : List UInt8) (w : World) (ov rv : Value) (x : World) : Prop :=
  ∃ (acc : List (List UInt8)) (r : ByteArray), rv = .string r ∧ r.size ≤ s.length ∧ acc.length + r.size ≤ s.length ∧ OwnG strEl w.heap.size x ov acc ∧
    scanL s = (acc ++ (scanL r.data.toList).1, s.length - r.size + (scanL r.data.toList).2.1, (scanL r.data.toList).2.2) ∧ Bel w x
theorem ne_nil (r : ByteArray) (h : r.size ≠ 0) : r.data.toList ≠ [] := by
  intro e
  have : r.data.toList.length = 0 := by rw [e]; rfl
  exact h this

set_option maxHeartbeats 4000000 in
theorem rscan_any (s : ByteArray) (w : World) (hs : s.size ≤ 1000000) :
    Calls Tryz.prog 87 #[.string s] w (ScanPost s.data.toList w) := by
  have hsl : s.data.toList.length = s.size := rfl
  go_enter Tryz.func87, Tryz.ntmps87
  go_wp2_with (fail)
  go_loopw [5, 6] (fun ov rv x => RSRel s.data.toList w ov rv x) (fun _ rv _ => strLen rv)
  case atStart => exact ⟨[], s, rfl, Nat.le_refl _, by simp [hsl], OwnG.nil _ _ _, by rw [hsl]; simp, Bel.refl w⟩
  case round =>
    obtain ⟨acc, r, rfl, hrs, hacc, hown, hu, hb⟩ := hrel
    rw [hsl] at hrs hacc
    obtain ⟨pp, cap, rfl⟩ := ownG_len hown
    have HU := Lib.hid hu; clear hu
    have HV := Lib.hid hown; clear hown
    have HB := Lib.hid hb; clear hb
    by_cases hr0 : r.size = 0
    · obtain rfl : r = ⟨#[]⟩ := by apply ByteArray.ext; exact Array.eq_empty_of_size_eq_zero hr0
      have hX := HU.out
      have e0 : (⟨#[]⟩ : ByteArray).data.toList = [] := rfl
      rw [e0, scan_nil] at hX
      have HX := Lib.hid (show scanL s.data.toList = (acc, s.size, 0) by rw [hX]; simp [hsl]; rfl)
      clear hX
      go_wp2_with (fail)
      go_ret3
      exact ⟨_, by rw [HX.out]; rfl, by rw [HX.out]; exact HV.out, HB.out⟩
    · have hnl := ne_nil r hr0
      have hne : r.toList.isEmpty = false := by rw [ByteArray.toList_eq]; cases h : r.data.toList with | nil => exact absurd h hnl | cons a l => rfl
      obtain ⟨t, rest, e, hT⟩ : ∃ t rest e, unframeL r.data.toList = (t, rest, e) := ⟨_, _, _, rfl⟩
      have hrl : r.data.toList.length = r.size := rfl
      have HT := Lib.hid (show unV r.data.toList = .tuple #[.string ⟨t.toArray⟩, .string ⟨rest.toArray⟩, .int .i64 e] by rw [unV, hT])
      by_cases he : e = 0
      · subst he
        have hlt := unframe_rest hT
        have hX := HU.out
        rw [scan_next hT] at hX
        have HX := Lib.hid (show scanL s.data.toList = (acc ++ [t] ++ (scanL rest).1, s.size - rest.length + (scanL rest).2.1, (scanL rest).2.2) by
          rw [hX, hrl, hsl]; simp only [List.append_assoc, List.singleton_append, Prod.mk.injEq, true_and, and_true]; omega)
        clear hX hnl hT
        go_wp2_with (fail)
        refine (runframe_any r _ (by omega)).mono ?_
        rintro e w1 ⟨rfl, hb⟩
        rw [HT.out]
        replace HB := Lib.hid (HB.out.trans hb)
        replace HV := Lib.hid (HV.out.bel hb); clear hb
        go_wp2_with (at_builtin; refine stop_here ?_)
        refine go_on ?_
        have hal : acc.length ≤ 1000000 := by omega
        refine append_glit strOk rfl _ _ rfl rfl HV.out _ _ _ [t] rfl rfl rfl (by simp [maxLen]; omega) (by simp; omega) HB.out.size (Or.inl rfl) ?_
        intro v3 w3 hown3 hbel3 hZ3
        obtain ⟨pp3, cap3, rfl⟩ := ownG_len hown3
        have HV3 := Lib.hid hown3
        have HB3 := Lib.hid (HB.out.trans_below hbel3)
        clear hown3 hbel3 HV
        have HSZ := Lib.hid (show (⟨rest.toArray⟩ : ByteArray).size = rest.length from by show rest.toArray.size = _; simp)
        go_wp2_with (fail)
        go_roundw
        case rel => exact ⟨acc ++ [t], ⟨rest.toArray⟩, rfl, by rw [HSZ.out, hsl]; omega, by rw [HSZ.out, hsl]; simp; omega, by simpa using HV3.out, by rw [HX.out, HSZ.out, hsl], HB3.out⟩
        case measure => simp [strLen]; rw [HSZ.out]; omega
      · have hX := HU.out
        rw [scan_end hnl hT he] at hX
        have HX := Lib.hid (show scanL s.data.toList = (acc, s.size - r.size, e) by rw [hX, hsl]; simp)
        have he2 : (e == 0) = false := by rw [beq_eq_false_iff_ne]; exact he
        have hsub : (s.size : Int) - r.size = ((s.size - r.size : Nat) : Int) := by omega
        clear hX hnl hT he
        go_wp2_with (fail)
        refine (runframe_any r _ (by omega)).mono ?_
        rintro e w1 ⟨rfl, hb⟩
        rw [HT.out]
        replace HB := Lib.hid (HB.out.trans hb)
        replace HV := Lib.hid (HV.out.bel hb); clear hb
        go_wp2_with (fail)
        go_ret3
        exact ⟨_, by rw [HX.out]; rfl, by rw [HX.out]; exact HV.out, HB.out⟩
end Go.Proofs.YtlmlcnbgdaiaeaaGreatDoor
/- journal.Batch and moultref7.Batch. -/
namespace Go.Proofs.YtlmlcnbgdaiaeaaGreatDoor
open Go.RowKit Go.Deep

def batchV (l : List (List UInt8)) : Value := .tuple #[.string ⟨(batchS l).1.toArray⟩, .int .i64 (batchS l).2]
theorem ba_of (S : ByteArray) (l : List UInt8) (h : S.data.toList = l) : S = ⟨l.toArray⟩ := by
  apply ByteArray.ext; simp [← h]
theorem ba_len (S : ByteArray) (l : List UInt8) (h : S.data.toList = l) : S.size = l.length := by rw [← h]; rfl
theorem str_len (l : List UInt8) : (⟨l.toArray⟩ : ByteArray).size = l.length := by show l.toArray.size = _; simp
theorem str_list (l : List UInt8) : (⟨l.toArray⟩ : ByteArray).data.toList = l := by simp
def BtRel (L : List (List UInt8)) (w : World) (sv i : Value) (x : World) : Prop := ∃ (k : Nat) (S : ByteArray), i = .int .i64 k ∧ k ≤ L.length ∧ sv = .string S ∧ S.data.toList = putL L.length ++ (L.take k).flatMap oneL ∧ S.size ≤ 40000 ∧ Bel w x

set_option maxHeartbeats 2000000 in
theorem batch_any (w : World) (p : Option Addr) (cap : Nat) (L : List (List UInt8)) (h : StrsAt w p L) (hL : L.length ≤ maxLen) (ht : ∀ t ∈ L, t.length ≤ 1000000) :
    Calls Tryz.prog 30 #[.slice p L.length cap] w fun e w' => e = .returned (batchV L) ∧ Bel w w' := by
  unfold maxLen at hL
  have H := Lib.hid h; clear h
  by_cases h50 : 50 < L.length
  · have HV := Lib.hid (show batchV L = .tuple #[.string ⟨#[]⟩, .int .i64 11] by unfold batchV batchS; rw [if_pos h50])
    go_enter Tryz.func30, Tryz.ntmps30
    go_wp2_with (fail)
    go_ret2
    exact ⟨by rw [HV.out]; rfl, Bel.refl w⟩
  · go_enter Tryz.func30, Tryz.ntmps30
    go_wp2_with (fail)
    refine (put_any L.length w (by omega)).mono ?_
    rintro e w1 ⟨rfl, hb1⟩
    have HB1 := Lib.hid hb1; clear hb1
    go_wp2_with (fail)
    go_loopw [4, 17] (fun sv i x => BtRel L w sv i x) (fun _ i _ => L.length - (intOf i).toNat)
    case atStart =>
      have := szN_le L.length
      have h2 := putL_len L.length
      exact ⟨0, _, rfl, Nat.zero_le _, rfl, by simp, by rw [str_len]; omega, HB1.out⟩
    case round =>
      obtain ⟨k, S, rfl, hk, rfl, hS, hSz, hb⟩ := hrel
      have HB := Lib.hid hb; clear hb
      have HS := Lib.hid hS
      by_cases hlt : k < L.length
      · obtain ⟨a, rfl, hc⟩ := (H.out.bel HB.out) k hlt
        have htk := ht L[k] (List.getElem_mem hlt)
        have hsn := flat_snoc L k hlt
        obtain ⟨t, htd⟩ : ∃ t, t = L[k] := ⟨_, rfl⟩
        rw [← htd] at hc htk hsn
        have hz := szN_le t.length
        have hpl := putL_len t.length
        have htl := str_len t
        have hpz := str_len (putL t.length)
        rw [hpl] at hpz
        have hone := one_len t
        have hSl := ba_len S _ hS
        clear htd
        by_cases hlong : 40000 < S.size + szN t.length + t.length
        · have HV := Lib.hid (show batchV L = .tuple #[.string ⟨#[]⟩, .int .i64 10] by
            have hf := flat_take L (k + 1)
            have he := enc_len L
            rw [hsn, List.length_append] at hf
            rw [List.length_append, putL_len] at hSl
            unfold batchV batchS
            rw [if_neg h50, if_pos (by omega)])
          clear hS hSl hsn
          go_wp2_with (fail)
          refine (put_any t.length _ (by omega)).mono ?_
          rintro e w2 ⟨rfl, hb2⟩
          have HB2 := Lib.hid (HB.out.trans hb2); clear hb2
          go_wp2_with (fail)
          go_ret2
          exact ⟨by rw [HV.out]; rfl, HB2.out⟩
        · clear hSl
          go_wp2_with (fail)
          refine (put_any t.length _ (by omega)).mono ?_
          rintro e w2 ⟨rfl, hb2⟩
          have HB2 := Lib.hid (HB.out.trans hb2); clear hb2
          go_wp2_with (fail)
          go_roundw
          case rel => exact ⟨k + 1, S ++ (⟨(putL t.length).toArray⟩ ++ ⟨t.toArray⟩), by go_num, hlt, rfl, by
            rw [hsn]; simp [HS.out, oneL], by
            rw [ByteArray.size_append, ByteArray.size_append, hpz, htl]; omega, HB2.out⟩
          case measure => simp [intOf]; omega
      · obtain rfl : k = L.length := by omega
        have HV := Lib.hid (show batchV L = .tuple #[.string S, .int .i64 0] by
          rw [List.take_length] at hS
          have he : S.data.toList = encL L := hS
          have hz := ba_len S _ he
          unfold batchV
          rw [batch_of (by omega) (by omega), ← ba_of S _ he])
        clear hS
        go_wp2_with (fail)
        go_ret2
        exact ⟨by rw [HV.out]; rfl, HB.out⟩
def RbRel (L : List (List UInt8)) (w : World) (sv i : Value) (x : World) : Prop := ∃ (k : Nat) (S : ByteArray), i = .int .i64 k ∧ k ≤ L.length ∧ sv = .string S ∧ S.data.toList = putL L.length ++ (L.take k).flatMap oneL ∧ S.size ≤ 9 + 40009 * k ∧ (∀ j (h : j < k) (h' : j < L.length), L[j].length ≤ 40000) ∧ Bel w x
theorem flat_any_le {L : List (List UInt8)} {k : Nat} (hk : k < L.length) : L[k].length ≤ (L.flatMap oneL).length := mem_len (List.getElem_mem hk)
set_option maxHeartbeats 4000000 in
set_option maxRecDepth 20000 in
theorem rbatch_any (w : World) (p : Option Addr) (cap : Nat) (L : List (List UInt8)) (h : StrsAt w p L) (hL : L.length ≤ maxLen) (ht : ∀ t ∈ L, t.length ≤ 1000000) :
    Calls Tryz.prog 76 #[.slice p L.length cap] w fun e w' => e = .returned (batchV L) ∧ Bel w w' := by
  unfold maxLen at hL
  have H := Lib.hid h; clear h
  by_cases h50 : 50 < L.length
  · have HV := Lib.hid (show batchV L = .tuple #[.string ⟨#[]⟩, .int .i64 11] by unfold batchV batchS; rw [if_pos h50])
    go_enter Tryz.func76, Tryz.ntmps76
    go_wp2_with (fail)
    go_ret2
    exact ⟨by rw [HV.out]; rfl, Bel.refl w⟩
  · go_enter Tryz.func76, Tryz.ntmps76
    go_wp2_with (fail)
    refine (rput_any L.length w (by omega)).mono ?_
    rintro e w1 ⟨rfl, hb1⟩
    have HB1 := Lib.hid hb1; clear hb1
    go_wp2_with (fail)
    go_loopw [4, 5] (fun sv i x => RbRel L w sv i x) (fun _ i _ => L.length - (intOf i).toNat)
    case atStart =>
      have := szN_le L.length
      have h2 := putL_len L.length
      exact ⟨0, _, rfl, Nat.zero_le _, rfl, by simp, by rw [str_len]; omega, fun j hj => absurd hj (by omega), HB1.out⟩
    case round =>
      obtain ⟨k, S, rfl, hk, rfl, hS, hSz, hj, hb⟩ := hrel
      have HJ := Lib.hid hj; clear hj
      have HB := Lib.hid hb; clear hb
      have HS := Lib.hid hS; clear hS
      by_cases hlt : k < L.length
      · obtain ⟨a, rfl, hc⟩ := (H.out.bel HB.out) k hlt
        have htk := ht L[k] (List.getElem_mem hlt)
        have hsn := flat_snoc L k hlt
        have hle := flat_any_le hlt
        have hlj := Lib.hid (show ∀ j (h : j < k + 1) (h' : j < L.length), L[k].length ≤ 40000 → L[j].length ≤ 40000 from fun j h h' hk' => by
          rcases Nat.lt_or_ge j k with hj | hj
          · exact HJ.out j hj h'
          · obtain rfl : j = k := by omega
            exact hk')
        obtain ⟨t, htd⟩ : ∃ t, t = L[k] := ⟨_, rfl⟩
        rw [← htd] at hc htk hsn hle hlj
        have hz := szN_le t.length
        have hpl := putL_len t.length
        have htl := str_len t
        have hpz := str_len (putL t.length)
        rw [hpl] at hpz
        have HSN := Lib.hid hsn
        clear htd hsn
        by_cases hlong : 40000 < t.length
        · have HV := Lib.hid (show batchV L = .tuple #[.string ⟨#[]⟩, .int .i64 10] by
            have he := enc_len L
            unfold batchV batchS
            rw [if_neg h50, if_pos (by omega)])
          go_wp2_with (fail)
          go_ret2
          exact ⟨by rw [HV.out]; rfl, HB.out⟩
        · clear hle
          go_wp2_with (fail)
          refine wp_region_held_drew (S := fun z => z.cell? (a.add k) = some (.string ⟨t.toArray⟩)) (by kernel_rfl) hc (fun hHeld => ?_)
          refine tk (oi := { dst := some 25, op := Op.move (Operand.tmp 4), type := 9, pos := "ref.go:28", after := #[], guard := none }) (v := ?_) 0 rfl ?_ ?_
          rotate_left
          · (intro w hSw; (try dsimp only at hSw); first | (go_simp; done) | (go_simp; with_reducible rfl))
          try simp only [Act.put, List.setIfInBounds_toArray, List.set_cons_zero, List.set_cons_succ]
          refine tk (oi := { dst := some 26, op := Op.move (Operand.tmp 0), type := 34, pos := "ref.go:28", after := #[], guard := none }) (v := ?_) 1 rfl ?_ ?_
          rotate_left
          · (intro w hSw; (try dsimp only at hSw); first | (go_simp; done) | (go_simp; with_reducible rfl))
          try simp only [Act.put, List.setIfInBounds_toArray, List.set_cons_zero, List.set_cons_succ]
          refine tk (oi := { dst := some 27, op := Op.move (Operand.tmp 5), type := 3, pos := "ref.go:28", after := #[], guard := none }) (v := ?_) 2 rfl ?_ ?_
          rotate_left
          · (intro w hSw; (try dsimp only at hSw); first | (go_simp; done) | (go_simp; with_reducible rfl))
          try simp only [Act.put, List.setIfInBounds_toArray, List.set_cons_zero, List.set_cons_succ]
          refine tk (oi := { dst := some 28, op := Op.indexAddr 34 (Operand.tmp 26) (Operand.tmp 27), type := 0, pos := "ref.go:28", after := #[{ on := 1, ground := Ground.data }, { on := 2, ground := Ground.data }], guard := none }) (v := ?_) 3 rfl ?_ ?_
          rotate_left
          · (intro w hSw; (try dsimp only at hSw); first | (go_simp; done) | (go_simp; with_reducible rfl))
          try simp only [Act.put, List.setIfInBounds_toArray, List.set_cons_zero, List.set_cons_succ]
          refine tk (oi := { dst := some 29, op := Op.load 9 (Operand.tmp 28), type := 9, pos := "ref.go:28", after := #[{ on := 3, ground := Ground.data }], guard := none }) (v := ?_) 4 rfl ?_ ?_
          rotate_left
          · (intro w hSw; (try dsimp only at hSw); first | (go_simp; done) | (go_simp; with_reducible rfl))
          try simp only [Act.put, List.setIfInBounds_toArray, List.set_cons_zero, List.set_cons_succ]
          refine tk (oi := { dst := some 30, op := Op.call { callee := Callee.builtin Builtin.len, args := #[Operand.tmp 29], argTypes := #[9] }, type := 3, pos := "ref.go:28", after := #[{ on := 4, ground := Ground.data }], guard := none }) (v := ?_) 5 rfl ?_ ?_
          rotate_left
          · (intro w hSw; (try dsimp only at hSw); first | (go_simp; done) | (go_simp; with_reducible rfl))
          try simp only [Act.put, List.setIfInBounds_toArray, List.set_cons_zero, List.set_cons_succ]
          refine tk (oi := { dst := some 31, op := Op.convert 3 115 (Operand.tmp 30), type := 115, pos := "ref.go:28", after := #[{ on := 5, ground := Ground.data }], guard := none }) (v := ?_) 6 rfl ?_ ?_
          rotate_left
          · (intro w hSw; (try dsimp only at hSw); first | (go_simp; done) | (go_simp; with_reducible rfl))
          try simp only [Act.put, List.setIfInBounds_toArray, List.set_cons_zero, List.set_cons_succ]
          refine tk (oi := { dst := some 34, op := Op.move (Operand.tmp 0), type := 34, pos := "ref.go:28", after := #[], guard := none }) (v := ?_) 9 rfl ?_ ?_
          rotate_left
          · (intro w hSw; (try dsimp only at hSw); first | (go_simp; done) | (go_simp; with_reducible rfl))
          try simp only [Act.put, List.setIfInBounds_toArray, List.set_cons_zero, List.set_cons_succ]
          refine tk (oi := { dst := some 35, op := Op.move (Operand.tmp 5), type := 3, pos := "ref.go:28", after := #[], guard := none }) (v := ?_) 10 rfl ?_ ?_
          rotate_left
          · (intro w hSw; (try dsimp only at hSw); first | (go_simp; done) | (go_simp; with_reducible rfl))
          try simp only [Act.put, List.setIfInBounds_toArray, List.set_cons_zero, List.set_cons_succ]
          refine tk (oi := { dst := some 36, op := Op.indexAddr 34 (Operand.tmp 34) (Operand.tmp 35), type := 0, pos := "ref.go:28", after := #[{ on := 9, ground := Ground.data }, { on := 10, ground := Ground.data }], guard := none }) (v := ?_) 11 rfl ?_ ?_
          rotate_left
          · (intro w hSw; (try dsimp only at hSw); first | (go_simp; done) | (go_simp; with_reducible rfl))
          try simp only [Act.put, List.setIfInBounds_toArray, List.set_cons_zero, List.set_cons_succ]
          refine tk (oi := { dst := some 37, op := Op.load 9 (Operand.tmp 36), type := 9, pos := "ref.go:28", after := #[{ on := 11, ground := Ground.data }], guard := none }) (v := ?_) 12 rfl ?_ ?_
          rotate_left
          · (intro w hSw; (try dsimp only at hSw); first | (go_simp; done) | (go_simp; with_reducible rfl))
          try simp only [Act.put, List.setIfInBounds_toArray, List.set_cons_zero, List.set_cons_succ]
          refine wpAnyH_ready (rs := [7]) (by kernel_rfl) (by simp) ?_
          refine AllReadyH.cons (o := { dst := some 32, op := Op.call { callee := Callee.value (Operand.func 104), args := #[Operand.tmp 31], argTypes := #[115] }, type := 9, pos := "ref.go:28", after := #[{ on := 6, ground := Ground.data }], guard := none }) rfl (fun K hK => ?_) AllReadyH.nil
          go_simp
          rw [show IntKind.u64.wrap (t.length : Int) = (t.length : Int) from u64_in _ (by omega) (by omega)]
          refine (rput_any t.length _ (by omega)).mono ?_
          rintro e w2 ⟨rfl, hb2⟩
          have HB2 := Lib.hid (HB.out.drew.trans hb2)
          have hc2 := cell_later hb2 (show _ = _ from hc)
          clear hb2
          dsimp only
          refine hK.out _ _ hc2 (fun hHeld => ?_)
          clear hK K
          try simp only [Act.put, List.setIfInBounds_toArray, List.set_cons_zero, List.set_cons_succ]
          refine tk (oi := { dst := some 33, op := Op.binOp BinOp.add 9 (Operand.tmp 25) (Operand.tmp 32) 9, type := 9, pos := "ref.go:28", after := #[{ on := 0, ground := Ground.data }, { on := 7, ground := Ground.data }], guard := none }) (v := ?_) 8 rfl ?_ ?_
          rotate_left
          · (intro w hSw; (try dsimp only at hSw); first | (go_simp; rw [if_neg (by omega)]; done))
          try simp only [Act.put, List.setIfInBounds_toArray, List.set_cons_zero, List.set_cons_succ]
          refine tk (oi := { dst := some 38, op := Op.binOp BinOp.add 9 (Operand.tmp 33) (Operand.tmp 37) 9, type := 9, pos := "ref.go:28", after := #[{ on := 8, ground := Ground.data }, { on := 12, ground := Ground.data }], guard := none }) (v := ?_) 13 rfl ?_ ?_
          rotate_left
          · (intro w hSw; (try dsimp only at hSw); first | (go_simp; rw [if_neg (by omega)]; done))
          try simp only [Act.put, List.setIfInBounds_toArray, List.set_cons_zero, List.set_cons_succ]
          refine tk (oi := { dst := some 4, op := Op.assign (Operand.tmp 38), type := 9, pos := "ref.go:28", after := #[{ on := 13, ground := Ground.data }, { on := 7, ground := Ground.chain }, { on := 0, ground := Ground.phase }, { on := 1, ground := Ground.phase }, { on := 2, ground := Ground.phase }, { on := 3, ground := Ground.phase }, { on := 4, ground := Ground.phase }, { on := 5, ground := Ground.phase }, { on := 6, ground := Ground.phase }, { on := 7, ground := Ground.phase }, { on := 8, ground := Ground.phase }, { on := 9, ground := Ground.phase }, { on := 10, ground := Ground.phase }, { on := 11, ground := Ground.phase }, { on := 12, ground := Ground.phase }, { on := 13, ground := Ground.phase }], guard := none }) (v := ?_) 14 rfl ?_ ?_
          rotate_left
          · (intro w hSw; (try dsimp only at hSw); first | (go_simp; done) | (go_simp; with_reducible rfl))
          try simp only [Act.put, List.setIfInBounds_toArray, List.set_cons_zero, List.set_cons_succ]
          refine wpAnyH_done (by kernel_rfl) ?_ _
          go_wp2_with (fail)
          go_roundw
          case rel => exact ⟨k + 1, (S ++ ⟨(putL t.length).toArray⟩) ++ ⟨t.toArray⟩, by go_num, hlt, rfl, by
            rw [HSN.out]; simp [HS.out, oneL], by
            rw [ByteArray.size_append, ByteArray.size_append, hpz, htl]; omega, fun j h h' => hlj.out j h h' (by omega), HB2.out⟩
          case measure => simp [intOf]; omega
      · obtain rfl : k = L.length := by omega
        have hS := HS.out
        rw [List.take_length] at hS
        have he : S.data.toList = encL L := hS
        have hz := ba_len S _ he
        by_cases hlong : 40000 < S.size
        · have HV := Lib.hid (show batchV L = .tuple #[.string ⟨#[]⟩, .int .i64 10] by
            unfold batchV batchS
            rw [if_neg h50, if_pos (by omega)])
          clear hS he hz
          go_wp2_with (fail)
          go_ret2
          exact ⟨by rw [HV.out]; rfl, HB.out⟩
        · have HV := Lib.hid (show batchV L = .tuple #[.string S, .int .i64 0] by
            unfold batchV
            rw [batch_of (by omega) (by omega), ← ba_of S _ he])
          clear hS he hz
          go_wp2_with (fail)
          go_ret2
          exact ⟨by rw [HV.out]; rfl, HB.out⟩
end Go.Proofs.YtlmlcnbgdaiaeaaGreatDoor
/- journal.Unbatch. -/
namespace Go.Proofs.YtlmlcnbgdaiaeaaGreatDoor
open Go.RowKit Go.Deep

def UnbPost (s : List UInt8) (w : World) (e : Ending) (w' : World) : Prop :=
  ∃ v, e = .returned (.tuple #[v, .int .i64 (unbS s).2]) ∧ OwnG strEl w.heap.size w' v (unbS s).1 ∧ Bel w w'
theorem unbs_none {s : List UInt8} (h : unbL s = none) : unbS s = ([], 8) := by unfold unbS; rw [h]
theorem unbs_some {s : List UInt8} {l : List (List UInt8)} (h : unbL s = some l) : unbS s = (l, 0) := by unfold unbS; rw [h]
theorem unbl_of {s : List UInt8} {n : Nat} {r : List UInt8} (h : takeL s = (n, r, true)) (hn : n ≤ 50) : unbL s = match unbF n r [] with
    | some (l, []) => some l
    | _ => none := by
  unfold unbL; rw [h, if_pos ⟨rfl, hn⟩]
  rfl
theorem unbl_not {s : List UInt8} (h : ¬ ((takeL s).2.2 = true ∧ (takeL s).1 ≤ 50)) : unbL s = none := by unfold unbL; rw [if_neg h]
theorem unbF_next {k : Nat} {r : List UInt8} {acc : List (List UInt8)} {n : Nat} {b : List UInt8} (h : takeL r = (n, b, true)) (hn : n ≤ b.length) : unbF (k + 1) r acc = unbF k (b.drop n) (acc ++ [b.take n]) := by
  rw [unbF, h, if_pos ⟨rfl, hn⟩]
theorem unbF_not {k : Nat} {r : List UInt8} {acc : List (List UInt8)} (h : ¬ ((takeL r).2.2 = true ∧ (takeL r).1 ≤ (takeL r).2.1.length)) : unbF (k + 1) r acc = none := by
  rw [unbF, if_neg h]
theorem step_one_str {B : Nat} {ops : Array Oper} {o : Oper} {a : Act} {K : Act → World → Prop} {Q : Exit → Act → World → Prop} {E : Prop} {z : World} {T : TypeId} (hT : T = 9) (hgd : o.guard = none) (s y : Operand)
    (ho : o.op = .call { callee := .builtin .append, args := #[s, y], argTypes := #[34, 34] }) {v : Value} {l : List (List UInt8)} {t : List UInt8} {c : Nat}
    (hs : a.eval s = v) (hy : a.eval y = .slice (some ⟨z.heap.size, 0, none⟩) 1 c) (hown : OwnG strEl B z v l) (hl : l.length ≤ 1000000) (hbase : B ≤ z.heap.size)
    (h : ∀ v' w', OwnG strEl B w' v' (l ++ [t]) → Below B (z.alloc (.cells #[.string ⟨t.toArray⟩] T)) w' → K (a.put o.dst v') w') :
    if Region.wanted o (yielded ops a.tmps) = true then o.wp Tryz.prog a (z.alloc (.cells #[.string ⟨t.toArray⟩] T)) K Q else E := by
  subst hT
  refine step_append_seg (E := strEl) (n := B) strOk hgd s y ho hs (hown.alloc _) [t] hy (Or.inr ⟨_, c, rfl, cellsG_new z #[.string ⟨t.toArray⟩] 9 [t] rfl⟩) (by unfold maxLen; simp; omega) (by simp; omega) (by simp; omega) ?_
  intro v' w' h1 _ h3
  exact h v' w' h1 h3
def UbRel (s : List UInt8) (n : Nat) (r0 : List UInt8) (w : World) (rv ov iv : Value) (x : World) : Prop :=
  ∃ (k : Nat) (acc : List (List UInt8)) (r : ByteArray), iv = .int .u64 k ∧ k ≤ n ∧ rv = .string r ∧ r.size ≤ 1000000 ∧ acc.length = k ∧ OwnG strEl w.heap.size x ov acc ∧ unbF n r0 [] = unbF (n - k) r.data.toList acc ∧ Bel w x

set_option maxHeartbeats 4000000 in
set_option maxRecDepth 20000 in
theorem unbatch_any (s : ByteArray) (w : World) (hs : s.size ≤ 1000000) :
    Calls Tryz.prog 31 #[.string s] w (UnbPost s.data.toList w) := by
  obtain ⟨n, r0, ok, hT⟩ : ∃ n r ok, takeL s.data.toList = (n, r, ok) := ⟨_, _, _, rfl⟩
  have HT := Lib.hid (take_parts _ n r0 ok hT)
  have hnl := take_lt s.data.toList
  have hrl := take_rest s.data.toList
  rw [hT] at hnl hrl
  simp only at hnl hrl
  have hsl : s.data.toList.length = s.size := rfl
  by_cases hok : ok = true ∧ n ≤ 50
  · obtain ⟨rfl, hn⟩ := hok
    have HU := Lib.hid (unbl_of hT hn)
    clear hT
    go_enter Tryz.func31, Tryz.ntmps31
    go_wp2_with (fail)
    refine (take_any s w hs).mono ?_
    rintro e w1 ⟨rfl, hb1⟩
    rw [HT.out]
    have HB1 := Lib.hid hb1; clear hb1
    go_wp2_with (fail)
    go_loopw [5, 7, 24] (fun rv ov iv x => UbRel s.data.toList n r0 w rv ov iv x) (fun _ _ iv _ => n - (intOf iv).toNat)
    case atStart => exact ⟨0, [], ⟨r0.toArray⟩, rfl, Nat.zero_le _, rfl, by rw [str_len]; omega, rfl, OwnG.nil _ _ _, by simp, HB1.out⟩
    case round =>
      obtain ⟨k, acc, r, rfl, hk, rfl, hrz, hacc, hown, hu, hb⟩ := hrel
      have HF := Lib.hid hu; clear hu
      have HB := Lib.hid hb; clear hb
      obtain ⟨op, oc, hov⟩ := ownG_len hown
      rw [hacc] at hov
      subst hov
      have HV := Lib.hid hown
      clear hown
      have hrz' : r.data.toList.length = r.size := rfl
      by_cases hlt : k < n
      · obtain ⟨m, b, ok, hT2⟩ : ∃ n' r' ok', takeL r.data.toList = (n', r', ok') := ⟨_, _, _, rfl⟩
        have HT2 := Lib.hid (take_parts _ m b ok hT2)
        have hml := take_lt r.data.toList
        have hbl := take_rest r.data.toList
        rw [hT2] at hml hbl
        simp only at hml hbl
        have hbz := str_len b
        obtain ⟨j, hj⟩ : ∃ j, n - k = j + 1 := ⟨n - k - 1, by omega⟩
        rw [hj] at HF
        by_cases hok : ok = true ∧ m ≤ b.length
        · obtain ⟨rfl, hm⟩ := hok
          have HF2 := Lib.hid (HF.out.trans (unbF_next hT2 hm))
          clear hT2 HF
          go_wp2_with (fail)
          refine (take_any r _ hrz).mono ?_
          rintro e w2 ⟨rfl, hb2⟩
          rw [HT2.out]
          have HB2 := Lib.hid (HB.out.trans hb2)
          have HV2 := Lib.hid (HV.out.bel hb2)
          clear hb2
          go_wp2_with (fail)
          refine wp_region_held_drew (S := fun z => True) (by kernel_rfl) trivial (fun hHeld => ?_)
          refine tk (oi := { dst := some 41, op := Op.move (Operand.tmp 7), type := 34, pos := "batch.go:36", after := #[], guard := none }) (v := ?_) 0 rfl ?_ ?_
          rotate_left
          · (intro w hSw; (try dsimp only at hSw); first | (go_simp; done) | (go_simp; with_reducible rfl))
          try simp only [Act.put, List.setIfInBounds_toArray, List.set_cons_zero, List.set_cons_succ]
          refine tk (oi := { dst := some 42, op := Op.move (Operand.tmp 9), type := 9, pos := "batch.go:36", after := #[], guard := none }) (v := ?_) 1 rfl ?_ ?_
          rotate_left
          · (intro w hSw; (try dsimp only at hSw); first | (go_simp; done) | (go_simp; with_reducible rfl))
          try simp only [Act.put, List.setIfInBounds_toArray, List.set_cons_zero, List.set_cons_succ]
          refine tk (oi := { dst := some 43, op := Op.move (Operand.tmp 8), type := 115, pos := "batch.go:36", after := #[], guard := none }) (v := ?_) 2 rfl ?_ ?_
          rotate_left
          · (intro w hSw; (try dsimp only at hSw); first | (go_simp; done) | (go_simp; with_reducible rfl))
          try simp only [Act.put, List.setIfInBounds_toArray, List.set_cons_zero, List.set_cons_succ]
          refine tk (oi := { dst := some 44, op := Op.slice 9 (Operand.tmp 42) none (some (Operand.tmp 43)) none, type := 9, pos := "batch.go:36", after := #[{ on := 1, ground := Ground.data }, { on := 2, ground := Ground.data }], guard := none }) (v := ?_) 3 rfl ?_ ?_
          rotate_left
          · (intro w hSw; (try dsimp only at hSw); first | (go_simp; done) | (go_simp; with_reducible rfl))
          try simp only [Act.put, List.setIfInBounds_toArray, List.set_cons_zero, List.set_cons_succ]
          refine tk (oi := { dst := some 47, op := Op.move (Operand.tmp 9), type := 9, pos := "batch.go:36", after := #[], guard := none }) (v := ?_) 6 rfl ?_ ?_
          rotate_left
          · (intro w hSw; (try dsimp only at hSw); first | (go_simp; done) | (go_simp; with_reducible rfl))
          try simp only [Act.put, List.setIfInBounds_toArray, List.set_cons_zero, List.set_cons_succ]
          refine tk (oi := { dst := some 48, op := Op.move (Operand.tmp 8), type := 115, pos := "batch.go:36", after := #[], guard := none }) (v := ?_) 7 rfl ?_ ?_
          rotate_left
          · (intro w hSw; (try dsimp only at hSw); first | (go_simp; done) | (go_simp; with_reducible rfl))
          try simp only [Act.put, List.setIfInBounds_toArray, List.set_cons_zero, List.set_cons_succ]
          refine tk (oi := { dst := some 49, op := Op.slice 9 (Operand.tmp 47) (some (Operand.tmp 48)) none none, type := 9, pos := "batch.go:36", after := #[{ on := 6, ground := Ground.data }, { on := 7, ground := Ground.data }], guard := none }) (v := ?_) 8 rfl ?_ ?_
          rotate_left
          · (intro w hSw; (try dsimp only at hSw); first | (go_simp; done) | (go_simp; with_reducible rfl))
          try simp only [Act.put, List.setIfInBounds_toArray, List.set_cons_zero, List.set_cons_succ]
          refine wpAnyH_ready (rs := [4]) (by kernel_rfl) (by simp) ?_
          refine AllReadyH.cons (o := { dst := some 45, op := Op.buildSlice 34 1 #[(0, Operand.tmp 44)], type := 34, pos := "batch.go:36", after := #[{ on := 3, ground := Ground.data }], guard := none }) rfl (fun K hK => ?_) AllReadyH.nil
          go_simp
          refine hK.out _ _ trivial (fun hHeld => ?_)
          clear hK K
          try simp only [Act.put, List.setIfInBounds_toArray, List.set_cons_zero, List.set_cons_succ]
          refine wpAnyH_ready (rs := [5]) (by kernel_rfl) (by simp) ?_
          refine AllReadyH.cons (o := { dst := some 46, op := Op.call { callee := Callee.builtin Builtin.append, args := #[Operand.tmp 41, Operand.tmp 45], argTypes := #[34, 34] }, type := 34, pos := "batch.go:36", after := #[{ on := 0, ground := Ground.data }, { on := 4, ground := Ground.data }], guard := none }) rfl (fun K hK => ?_) AllReadyH.nil
          rw [show (⟨b.toArray⟩ : ByteArray).extract 0 m = ⟨(b.take m).toArray⟩ from by apply ByteArray.ext; simp]
          refine step_one_str (B := w.heap.size) (l := acc) rfl rfl (.tmp 41) (.tmp 45) rfl rfl rfl HV2.out.drew (by omega) HB2.out.drew.size ?_
          intro v3 w3 hown3 hb3
          obtain ⟨p3, c3, rfl⟩ := ownG_len hown3
          have HV3 := Lib.hid hown3
          have HB3 := Lib.hid ((HB2.out.drew.alloc _).trans_below hb3)
          clear hown3 hb3
          refine hK.out _ _ trivial (fun hHeld => ?_)
          clear hK K
          try simp only [Act.put, List.setIfInBounds_toArray, List.set_cons_zero, List.set_cons_succ]
          refine tk (oi := { dst := some 7, op := Op.assign (Operand.tmp 46), type := 34, pos := "batch.go:36", after := #[{ on := 5, ground := Ground.data }, { on := 5, ground := Ground.chain }, { on := 0, ground := Ground.phase }, { on := 1, ground := Ground.phase }, { on := 2, ground := Ground.phase }, { on := 3, ground := Ground.phase }, { on := 4, ground := Ground.phase }, { on := 5, ground := Ground.phase }, { on := 6, ground := Ground.textOnly Departure.lateStores }, { on := 7, ground := Ground.textOnly Departure.lateStores }, { on := 8, ground := Ground.textOnly Departure.lateStoresUnsure }], guard := none }) (v := ?_) 9 rfl ?_ ?_
          rotate_left
          · (intro w hSw; (try dsimp only at hSw); first | (go_simp; done) | (go_simp; with_reducible rfl))
          try simp only [Act.put, List.setIfInBounds_toArray, List.set_cons_zero, List.set_cons_succ]
          refine tk (oi := { dst := some 5, op := Op.assign (Operand.tmp 49), type := 9, pos := "batch.go:36", after := #[{ on := 8, ground := Ground.data }, { on := 9, ground := Ground.chain }, { on := 0, ground := Ground.phase }, { on := 1, ground := Ground.phase }, { on := 2, ground := Ground.phase }, { on := 3, ground := Ground.phase }, { on := 4, ground := Ground.phase }, { on := 5, ground := Ground.phase }, { on := 6, ground := Ground.phase }, { on := 7, ground := Ground.phase }, { on := 8, ground := Ground.phase }, { on := 9, ground := Ground.phase }], guard := none }) (v := ?_) 10 rfl ?_ ?_
          rotate_left
          · (intro w hSw; (try dsimp only at hSw); first | (go_simp; done) | (go_simp; with_reducible rfl))
          try simp only [Act.put, List.setIfInBounds_toArray, List.set_cons_zero, List.set_cons_succ]
          refine wpAnyH_done (by kernel_rfl) ?_ _
          go_wp2_with (fail)
          go_roundw
          case rel => exact ⟨k + 1, acc ++ [b.take m], (⟨b.toArray⟩ : ByteArray).extract m b.length, by go_num, hlt, rfl, by
            rw [ByteArray.size_extract]; omega, by simp [hacc], by simpa [hacc] using HV3.out, by
            rw [HF2.out]
            have e1 : n - (k + 1) = j := by omega
            have e2 : ((⟨b.toArray⟩ : ByteArray).extract m b.length).data.toList = b.drop m := by
              simp only [ByteArray.data_extract, Array.toList_extract, List.extract_eq_take_drop]
              exact List.take_of_length_le (by rw [List.length_drop]; omega)
            rw [e1, e2], HB3.out⟩
          case measure => simp [intOf]; omega
        · have HN := Lib.hid (unbs_none (show unbL s.data.toList = none by
            rw [HU.out, HF.out, unbF_not (by rw [hT2]; exact hok)]))
          clear hT2 HF
          go_wp2_with (fail)
          refine (take_any r _ hrz).mono ?_
          rintro e w2 ⟨rfl, hb2⟩
          rw [HT2.out]
          have HB2 := Lib.hid (HB.out.trans hb2)
          clear hb2
          cases ok with
          | false =>
            go_wp2_with (fail)
            go_ret2
            exact ⟨_, by rw [HN.out]; rfl, by rw [HN.out]; exact OwnG.nil _ _ _, HB2.out⟩
          | true =>
            have hmb : b.length < m := by
              by_cases h : b.length < m
              · exact h
              · exact absurd ⟨rfl, by omega⟩ hok
            clear hok
            go_wp2_with (fail)
            go_ret2
            exact ⟨_, by rw [HN.out]; rfl, by rw [HN.out]; exact OwnG.nil _ _ _, HB2.out⟩
      · obtain rfl : k = n := by omega
        rw [Nat.sub_self] at HF
        by_cases hr0 : r.size = 0
        · obtain rfl : r = ⟨#[]⟩ := by apply ByteArray.ext; exact Array.eq_empty_of_size_eq_zero hr0
          have HN := Lib.hid (unbs_some (show unbL s.data.toList = some acc by rw [HU.out, HF.out]; rfl))
          clear HF
          go_wp2_with (fail)
          go_ret2
          exact ⟨_, by rw [HN.out]; rfl, by rw [HN.out]; exact HV.out, HB.out⟩
        · have hne : r.toList.isEmpty = false := by
            rw [ByteArray.toList_eq]
            cases h : r.data.toList with
            | nil => exact absurd (by rw [← hrz', h]; rfl) hr0
            | cons a l => rfl
          have HN := Lib.hid (unbs_none (show unbL s.data.toList = none by
            rw [HU.out, HF.out]
            simp only [unbF]
            cases h : r.data.toList with
            | nil => exact absurd (by rw [← hrz', h]; rfl) hr0
            | cons a l => rfl))
          clear HF
          go_wp2_with (fail)
          go_ret2
          exact ⟨_, by rw [HN.out]; rfl, by rw [HN.out]; exact OwnG.nil _ _ _, HB.out⟩
  · have HN := Lib.hid (unbs_none (unbl_not (s := s.data.toList) (by rw [hT]; exact hok)))
    clear hT
    go_enter Tryz.func31, Tryz.ntmps31
    go_wp2_with (fail)
    refine (take_any s w hs).mono ?_
    rintro e w1 ⟨rfl, hb1⟩
    rw [HT.out]
    have HB1 := Lib.hid hb1; clear hb1
    cases ok with
    | false =>
      go_wp2_with (fail)
      go_ret2
      exact ⟨_, by rw [HN.out]; rfl, by rw [HN.out]; exact OwnG.nil _ _ _, HB1.out⟩
    | true =>
      have hmb : 50 < n := by
        by_cases h : 50 < n
        · exact h
        · exact absurd ⟨rfl, by omega⟩ hok
      clear hok
      go_wp2_with (fail)
      go_ret2
      exact ⟨_, by rw [HN.out]; rfl, by rw [HN.out]; exact OwnG.nil _ _ _, HB1.out⟩
end Go.Proofs.YtlmlcnbgdaiaeaaGreatDoor
/- moultref7.Unbatch. -/
namespace Go.Proofs.YtlmlcnbgdaiaeaaGreatDoor
open Go.RowKit Go.Deep

def RuRel (s : List UInt8) (n : Nat) (r0 : List UInt8) (w : World) (rv ov iv : Value) (x : World) : Prop :=
  ∃ (k : Nat) (acc : List (List UInt8)) (r : ByteArray), iv = .int .i64 k ∧ k ≤ n ∧ rv = .string r ∧ r.size ≤ 40000 ∧ acc.length = k ∧ OwnG strEl w.heap.size x ov acc ∧ unbF n r0 [] = unbF (n - k) r.data.toList acc ∧ (putL n ++ (acc.flatMap oneL ++ r.data.toList) = s) ∧ Bel w x

set_option maxHeartbeats 4000000 in
set_option maxRecDepth 20000 in
theorem runbatch_any (s : ByteArray) (w : World) (hs : s.size ≤ 40000) :
    Calls Tryz.prog 88 #[.string s] w (UnbPost s.data.toList w) := by
  obtain ⟨n, r0, ok, hT⟩ : ∃ n r ok, takeL s.data.toList = (n, r, ok) := ⟨_, _, _, rfl⟩
  have HT := Lib.hid (take_parts _ n r0 ok hT)
  have hnl := take_lt s.data.toList
  have hrl := take_rest s.data.toList
  rw [hT] at hnl hrl
  simp only at hnl hrl
  have hsl : s.data.toList.length = s.size := rfl
  by_cases hok : ok = true ∧ n ≤ 50
  · obtain ⟨rfl, hn⟩ := hok
    have HU := Lib.hid (unbl_of hT hn)
    go_enter Tryz.func88, Tryz.ntmps88
    go_wp2_with (fail)
    refine (rtake_any s w (by omega)).mono ?_
    rintro e w1 ⟨rfl, hb1⟩
    rw [HT.out]
    have HB1 := Lib.hid hb1; clear hb1
    go_wp2_with (fail)
    go_loopw [5, 7, 8] (fun rv ov iv x => RuRel s.data.toList n r0 w rv ov iv x) (fun _ _ iv _ => n - (intOf iv).toNat)
    case atStart => exact ⟨0, [], ⟨r0.toArray⟩, rfl, Nat.zero_le _, rfl, by rw [str_len]; omega, rfl, OwnG.nil _ _ _, by simp, by simp [take_back _ _ _ hT], HB1.out⟩
    case round =>
      obtain ⟨k, acc, r, rfl, hk, rfl, hrz, hacc, hown, hu, hsp, hb⟩ := hrel
      clear hT
      have HSP := Lib.hid hsp; clear hsp
      have HF := Lib.hid hu; clear hu
      have HB := Lib.hid hb; clear hb
      obtain ⟨op, oc, hov⟩ := ownG_len hown
      rw [hacc] at hov
      subst hov
      have HV := Lib.hid hown
      clear hown
      have hrz' : r.data.toList.length = r.size := rfl
      by_cases hlt : k < n
      · obtain ⟨m, b, ok, hT2⟩ : ∃ n' r' ok', takeL r.data.toList = (n', r', ok') := ⟨_, _, _, rfl⟩
        have HT2 := Lib.hid (take_parts _ m b ok hT2)
        have hml := take_lt r.data.toList
        have hbl := take_rest r.data.toList
        rw [hT2] at hml hbl
        simp only at hml hbl
        have hbz := str_len b
        obtain ⟨j, hj⟩ : ∃ j, n - k = j + 1 := ⟨n - k - 1, by omega⟩
        rw [hj] at HF
        by_cases hok : ok = true ∧ m ≤ b.length
        · obtain ⟨rfl, hm⟩ := hok
          have HF2 := Lib.hid (HF.out.trans (unbF_next hT2 hm))
          have HSN := Lib.hid (show putL n ++ ((acc ++ [b.take m]).flatMap oneL ++ b.drop m) = s.data.toList by
            rw [← HSP.out, ← take_back _ _ _ hT2]
            simp [oneL, List.length_take, Nat.min_eq_left hm])
          clear hT2 HF
          go_wp2_with (fail)
          refine (rtake_any r _ (by omega)).mono ?_
          rintro e w2 ⟨rfl, hb2⟩
          rw [HT2.out]
          have HB2 := Lib.hid (HB.out.trans hb2)
          have HV2 := Lib.hid (HV.out.bel hb2)
          clear hb2
          go_wp2_with (at_builtin; refine stop_here ?_)
          refine go_on ?_
          rw [show (⟨b.toArray⟩ : ByteArray).extract 0 m = ⟨(b.take m).toArray⟩ from by apply ByteArray.ext; simp]
          refine append_glit (L := acc) strOk rfl _ _ rfl rfl HV2.out _ _ _ [b.take m] rfl rfl rfl (by simp [maxLen]; omega) (by simp; omega) HB2.out.size (Or.inl rfl) ?_
          intro v3 w3 hown3 hb3
          try intro hZ3
          obtain ⟨p3, c3, rfl⟩ := ownG_len hown3
          have HV3 := Lib.hid hown3
          have HB3 := Lib.hid (HB2.out.trans_below hb3)
          clear hown3 hb3
          go_wp2_with (fail)
          go_roundw
          case rel => exact ⟨k + 1, acc ++ [b.take m], (⟨b.toArray⟩ : ByteArray).extract m b.length, by go_num, hlt, rfl, by
            rw [ByteArray.size_extract]; omega, by simp [hacc], by simpa [hacc] using HV3.out, by
            rw [HF2.out]
            have e1 : n - (k + 1) = j := by omega
            have e2 : ((⟨b.toArray⟩ : ByteArray).extract m b.length).data.toList = b.drop m := by
              simp only [ByteArray.data_extract, Array.toList_extract, List.extract_eq_take_drop]
              exact List.take_of_length_le (by rw [List.length_drop]; omega)
            rw [e1, e2], by
            have e2 : ((⟨b.toArray⟩ : ByteArray).extract m b.length).data.toList = b.drop m := by
              simp only [ByteArray.data_extract, Array.toList_extract, List.extract_eq_take_drop]
              exact List.take_of_length_le (by rw [List.length_drop]; omega)
            rw [e2]
            exact HSN.out, HB3.out⟩
          case measure => simp [intOf]; omega
        · have HN := Lib.hid (unbs_none (show unbL s.data.toList = none by
            rw [HU.out, HF.out, unbF_not (by rw [hT2]; exact hok)]))
          clear hT2 HF
          go_wp2_with (fail)
          refine (rtake_any r _ (by omega)).mono ?_
          rintro e w2 ⟨rfl, hb2⟩
          rw [HT2.out]
          have HB2 := Lib.hid (HB.out.trans hb2)
          clear hb2
          cases ok with
          | false =>
            go_wp2_with (fail)
            go_ret2
            exact ⟨_, by rw [HN.out]; rfl, by rw [HN.out]; exact OwnG.nil _ _ _, HB2.out⟩
          | true =>
            have hmb : b.length < m := by
              by_cases h : b.length < m
              · exact h
              · exact absurd ⟨rfl, by omega⟩ hok
            clear hok
            go_wp2_with (fail)
            go_ret2
            exact ⟨_, by rw [HN.out]; rfl, by rw [HN.out]; exact OwnG.nil _ _ _, HB2.out⟩
      · obtain rfl : k = n := by omega
        rw [Nat.sub_self] at HF
        have HSA := Lib.hid (ownG_strs HV.out)
        obtain ⟨p', cap', hv', hat⟩ := HSA.out
        simp only [Value.slice.injEq] at hv'
        obtain ⟨rfl, -, rfl⟩ := hv'
        have HAT := Lib.hid hat
        have hmem : ∀ t ∈ acc, t.length ≤ 1000000 := fun t ht => by
          have h1 := mem_len ht
          have h2 := congrArg List.length HSP.out
          simp only [List.length_append] at h2
          omega
        have henc : encL acc = putL k ++ acc.flatMap oneL := by rw [encL, hacc]
        have hlen : (encL acc).length + r.size = s.size := by
          have h2 := congrArg List.length HSP.out
          rw [henc]
          simp only [List.length_append] at h2 ⊢
          omega
        have HBV := Lib.hid (show batchV acc = .tuple #[.string ⟨(encL acc).toArray⟩, .int .i64 0] by
          unfold batchV; rw [batch_of (by omega) (by omega)])
        have HCL := Lib.hid (fun (z : World) (hz : StrsAt z op acc) => rbatch_any z op oc acc hz (by unfold maxLen; omega) hmem)
        rw [hacc] at HCL
        clear hmem hat HSA
        by_cases hr0 : r.size = 0
        · obtain rfl : r = ⟨#[]⟩ := by apply ByteArray.ext; exact Array.eq_empty_of_size_eq_zero hr0
          have HN := Lib.hid (unbs_some (show unbL s.data.toList = some acc by rw [HU.out, HF.out]; rfl))
          have hS : s = ⟨(encL acc).toArray⟩ := ba_of s _ (by rw [← HSP.out, henc]; simp)
          have HSS := Lib.hid hS
          clear HF henc hlen hS
          go_wp2_with (fail)
          refine (HCL.out _ HAT.out).mono ?_
          rintro e w5 ⟨rfl, hb5⟩
          rw [HBV.out, ← HSS.out]
          have HB5 := Lib.hid (HB.out.trans hb5)
          have HV5 := Lib.hid (HV.out.bel hb5)
          clear hb5
          go_wp2_with (fail)
          go_ret2
          exact ⟨_, by rw [HN.out]; rfl, by rw [HN.out]; exact HV5.out, HB5.out⟩
        · have HN := Lib.hid (unbs_none (show unbL s.data.toList = none by
            rw [HU.out, HF.out]
            simp only [unbF]
            cases h : r.data.toList with
            | nil => exact absurd (by rw [← hrz', h]; rfl) hr0
            | cons a l => rfl))
          have hz := str_len (encL acc)
          have hS2 : ((⟨(encL acc).toArray⟩ : ByteArray).toList == s.toList) = false := by
            rw [beq_eq_false_iff_ne, ByteArray.toList_eq, ByteArray.toList_eq]
            intro e
            have := congrArg List.length e
            rw [str_list] at this
            omega
          have hS3 : (encL acc == s.toList) = false := by
            rw [beq_eq_false_iff_ne, ByteArray.toList_eq]
            intro e
            have := congrArg List.length e
            omega
          clear HF henc hlen hz
          go_wp2_with (fail)
          refine (HCL.out _ HAT.out).mono ?_
          rintro e w5 ⟨rfl, hb5⟩
          rw [HBV.out]
          have HB5 := Lib.hid (HB.out.trans hb5)
          clear hb5
          go_wp2_with (fail)
          go_ret2
          exact ⟨_, by rw [HN.out]; rfl, by rw [HN.out]; exact OwnG.nil _ _ _, HB5.out⟩
  · have HN := Lib.hid (unbs_none (unbl_not (s := s.data.toList) (by rw [hT]; exact hok)))
    clear hT
    go_enter Tryz.func88, Tryz.ntmps88
    go_wp2_with (fail)
    refine (rtake_any s w (by omega)).mono ?_
    rintro e w1 ⟨rfl, hb1⟩
    rw [HT.out]
    have HB1 := Lib.hid hb1; clear hb1
    cases ok with
    | false =>
      go_wp2_with (fail)
      go_ret2
      exact ⟨_, by rw [HN.out]; rfl, by rw [HN.out]; exact OwnG.nil _ _ _, HB1.out⟩
    | true =>
      have hmb : 50 < n := by
        by_cases h : 50 < n
        · exact h
        · exact absurd ⟨rfl, by omega⟩ hok
      clear hok
      go_wp2_with (fail)
      go_ret2
      exact ⟨_, by rw [HN.out]; rfl, by rw [HN.out]; exact OwnG.nil _ _ _, HB1.out⟩
end Go.Proofs.YtlmlcnbgdaiaeaaGreatDoor
