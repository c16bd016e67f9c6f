/- CSeq, JBat, laid together. -/
import Derived.Test.YtedopiojidaeiaaGreatDoorA25
import Derived.Test.YtedopiojidaeiaaGreatDoorA6
import Derived.Test.YtedopiojidaeiaaGreatDoorA14
import Derived.Test.YtedopiojidaeiaaGreatDoorA2
/- Slices of texts; what check.frames tells of some bytes (seqL), one frame or one error at a time; moultref5.Scan walked. -/
set_option linter.unusedSimpArgs false
set_option linter.unusedVariables false
namespace Go.Proofs.YtedopiojidaeiaaGreatDoor
open Go.RowKit Go.Deep

/-- The slice at p holds the texts L. -/
def StrsAt (w : World) (p : Option Addr) (L : List (List UInt8)) : Prop := ∀ i (h : i < L.length), ∃ a, p = some a ∧ w.cell? (a.add i) = some (.string ⟨L[i].toArray⟩)
theorem StrsAt.bel {w x : World} {p : Option Addr} {L : List (List UInt8)} (h : StrsAt w p L) (hb : Bel w x) : StrsAt x p L := by
  intro i hi
  obtain ⟨a, ha, hc⟩ := h i hi
  exact ⟨a, ha, (Below.cell hb (block_lt_of_cell hc)).trans hc⟩
theorem ownG_strs {B : Nat} {w : World} {v : Value} {L : List (List UInt8)} (h : OwnG strEl B w v L) : ∃ p cap, v = .slice p L.length cap ∧ StrsAt w p L := by
  by_cases hL : L = []
  · subst hL
    obtain ⟨p, cap, hv⟩ := ownG_len h
    exact ⟨p, cap, hv, fun i hi => by simp at hi⟩
  · obtain ⟨g, cap, hv, _, _, _, hc⟩ := ownG_cells strOk h hL
    refine ⟨_, cap, hv, fun i hi => ⟨_, rfl, ?_⟩⟩
    have := hc i L[i] (List.getElem?_eq_getElem hi) 0 _ rfl
    have e : (⟨g, 0, none⟩ : Addr).add i = ⟨g, i * strEl.n + 0, none⟩ := by cases i <;> simp [Addr.add, strEl]
    rw [e]; exact this

/-- What is told of some bytes: a frame's payload and its size, or an error. -/
structure CF where
  t : List UInt8
  k : Nat
  e : Int
def seqF : Nat → List UInt8 → List CF
  | 0, _ => []
  | f + 1, s => if s = [] then [] else if (unframeL s).2.2 = 0 then ⟨(unframeL s).1, s.length - (unframeL s).2.1.length, 0⟩ :: seqF f (unframeL s).2.1 else [⟨[], 0, (unframeL s).2.2⟩]
def seqL (s : List UInt8) : List CF := seqF s.length s
theorem seq_fuel : ∀ (f g : Nat) (s : List UInt8), s.length ≤ f → s.length ≤ g → seqF f s = seqF g s
  | 0, 0, _, _, _ => rfl
  | 0, g + 1, s, h, _ => by
    obtain rfl : s = [] := List.eq_nil_of_length_eq_zero (by omega)
    rfl
  | f + 1, 0, s, _, h => by
    obtain rfl : s = [] := List.eq_nil_of_length_eq_zero (by omega)
    rfl
  | f + 1, g + 1, s, h, h' => by
    rw [seqF, seqF]
    by_cases h0 : (unframeL s).2.2 = 0
    · have := unframe_rest (s := s) (t := (unframeL s).1) (r := (unframeL s).2.1) (by rw [← h0])
      rw [seq_fuel f g (unframeL s).2.1 (by omega) (by omega)]
    · rw [if_neg h0, if_neg h0]
theorem seq_nil : seqL [] = [] := rfl
theorem seq_next {s t r : List UInt8} (h : unframeL s = (t, r, 0)) : seqL s = ⟨t, s.length - r.length, 0⟩ :: seqL r := by
  have hr := unframe_rest h
  have hs : s ≠ [] := by rintro rfl; simp at hr
  rw [seqL, show s.length = (s.length - 1) + 1 by omega, seqF, if_neg hs, h, if_pos rfl]
  simp only []
  rw [seq_fuel (s.length - 1) r.length r (by omega) (by omega), show s.length - 1 + 1 = s.length by omega]
  rfl
theorem seq_end {s t r : List UInt8} {e : Int} (hs : s ≠ []) (h : unframeL s = (t, r, e)) (he : e ≠ 0) : seqL s = [⟨[], 0, e⟩] := by
  have : 0 < s.length := List.length_pos_iff.2 hs
  rw [seqL, show s.length = (s.length - 1) + 1 by omega, seqF, if_neg hs, h, if_neg he]
/-- What Scan makes of what is told. -/
def scanOf : List CF → List (List UInt8) × Nat × Int
  | [] => ([], 0, 0)
  | x :: l => if x.e = 0 then (x.t :: (scanOf l).1, x.k + (scanOf l).2.1, (scanOf l).2.2) else ([], 0, x.e)
theorem scan_seq : ∀ (n : Nat) (s : List UInt8), s.length ≤ n → scanL s = scanOf (seqL s)
  | 0, s, h => by
    obtain rfl : s = [] := List.eq_nil_of_length_eq_zero (by omega)
    rfl
  | n + 1, s, h => by
    by_cases h0 : s = []
    · subst h0; rfl
    obtain ⟨t, r, e, hu⟩ : ∃ t r e, unframeL s = (t, r, e) := ⟨_, _, _, rfl⟩
    by_cases he : e = 0
    · subst he
      have := unframe_rest hu
      rw [scan_next hu, seq_next hu, scan_seq n r (by omega), scanOf, if_pos rfl]
    · rw [scan_end h0 hu he, seq_end h0 hu he, scanOf, if_neg he]
def fine (l : List CF) : Prop := ∀ x ∈ l, x.e = 0
def payl (l : List CF) : List (List UInt8) := l.map CF.t
def sizes : List CF → Nat
  | [] => 0
  | x :: l => x.k + sizes l
theorem payl_snoc (l : List CF) (x : CF) : payl (l ++ [x]) = payl l ++ [x.t] := by simp [payl]
theorem sizes_snoc : ∀ (l : List CF) (x : CF), sizes (l ++ [x]) = sizes l + x.k
  | [], x => by simp [sizes]
  | y :: l, x => by rw [List.cons_append, sizes, sizes, sizes_snoc l x]; omega
theorem scan_fine : ∀ (l : List CF), fine l → scanOf l = (payl l, sizes l, 0)
  | [], _ => rfl
  | x :: l, h => by
    rw [scanOf, if_pos (h x (by simp)), scan_fine l (fun y hy => h y (by simp [hy]))]; rfl
theorem scan_bad : ∀ (l : List CF) (x : CF) (m : List CF), fine l → x.e ≠ 0 → scanOf (l ++ x :: m) = (payl l, sizes l, x.e)
  | [], x, m, _, hx => by rw [List.nil_append, scanOf, if_neg hx]; rfl
  | y :: l, x, m, h, hx => by
    rw [List.cons_append, scanOf, if_pos (h y (by simp)), scan_bad l x m (fun z hz => h z (by simp [hz])) hx]; rfl
theorem seq_len : ∀ (n : Nat) (s : List UInt8), s.length ≤ n → (seqL s).length ≤ s.length ∧ sizes (seqL s) ≤ s.length
  | 0, s, h => by
    obtain rfl : s = [] := List.eq_nil_of_length_eq_zero (by omega)
    simp [seq_nil, sizes]
  | n + 1, s, h => by
    by_cases h0 : s = []
    · subst h0; simp [seq_nil, sizes]
    have := List.length_pos_iff.2 h0
    obtain ⟨t, r, e, hu⟩ : ∃ t r e, unframeL s = (t, r, e) := ⟨_, _, _, rfl⟩
    by_cases he : e = 0
    · subst he
      have := unframe_rest hu
      have ih := seq_len n r (by omega)
      rw [seq_next hu, List.length_cons, sizes]
      simp only []
      omega
    · rw [seq_end h0 hu he]
      simp [sizes]; omega
theorem sizes_app : ∀ (l m : List CF), sizes (l ++ m) = sizes l + sizes m
  | [], m => by simp [sizes]
  | y :: l, m => by rw [List.cons_append, sizes, sizes, sizes_app l m]; omega
theorem unframe_err0 {s t r : List UInt8} {e : Int} (hs : unframeL s = (t, r, e)) (he : e ≠ 0) : e = 8 ∨ e = 9 ∨ e = 10 := (unframe_err hs he).2.2

/-- What Scan answers: a slice of its own. -/
def ScanPost (s : List UInt8) (w : World) (e : Ending) (w' : World) : Prop :=
  ∃ v, e = .returned (.tuple #[v, .int .i64 ((scanL s).2.1 : Nat), .int .i64 (scanL s).2.2]) ∧ OwnG strEl w.heap.size w' v (scanL s).1 ∧ Bel w w'
def strLen : Value → Nat
  | .string s => s.size
  | _ => 0
def RSRel (s : List UInt8) (w : World) (ov rv : Value) (x : World) : Prop :=
  ∃ (acc : List (List UInt8)) (r : ByteArray), rv = .string r ∧ r.size ≤ s.length ∧ acc.length + r.size ≤ s.length ∧ OwnG strEl w.heap.size x ov acc ∧
    scanL s = (acc ++ (scanL r.data.toList).1, s.length - r.size + (scanL r.data.toList).2.1, (scanL r.data.toList).2.2) ∧ Bel w x
theorem ne_nil (r : ByteArray) (h : r.size ≠ 0) : r.data.toList ≠ [] := by
  intro e
  have : r.data.toList.length = 0 := by rw [e]; rfl
  exact h this

set_option maxHeartbeats 4000000 in
theorem rscan_any (s : ByteArray) (w : World) (hs : s.size ≤ 1000000) :
    Calls Tryz.prog 98 #[.string s] w (ScanPost s.data.toList w) := by
  have hsl : s.data.toList.length = s.size := rfl
  go_enter Tryz.func98, Tryz.ntmps98
  go_wp2_with (fail)
  go_loopw [5, 6] (fun ov rv x => RSRel s.data.toList w ov rv x) (fun _ rv _ => strLen rv)
  case atStart => exact ⟨[], s, rfl, Nat.le_refl _, by simp [hsl], OwnG.nil _ _ _, by rw [hsl]; simp, Bel.refl w⟩
  case round =>
    obtain ⟨acc, r, rfl, hrs, hacc, hown, hu, hb⟩ := hrel
    rw [hsl] at hrs hacc
    obtain ⟨pp, cap, rfl⟩ := ownG_len hown
    have HU := Lib.hid hu; clear hu
    have HV := Lib.hid hown; clear hown
    have HB := Lib.hid hb; clear hb
    by_cases hr0 : r.size = 0
    · obtain rfl : r = ⟨#[]⟩ := by apply ByteArray.ext; exact Array.eq_empty_of_size_eq_zero hr0
      have hX := HU.out
      have e0 : (⟨#[]⟩ : ByteArray).data.toList = [] := rfl
      rw [e0, scan_nil] at hX
      have HX := Lib.hid (show scanL s.data.toList = (acc, s.size, 0) by rw [hX]; simp [hsl]; rfl)
      clear hX
      go_wp2_with (fail)
      go_ret3
      exact ⟨_, by rw [HX.out]; rfl, by rw [HX.out]; exact HV.out, HB.out⟩
    · have hnl := ne_nil r hr0
      have hne : r.toList.isEmpty = false := by rw [ByteArray.toList_eq]; cases h : r.data.toList with | nil => exact absurd h hnl | cons a l => rfl
      obtain ⟨t, rest, e, hT⟩ : ∃ t rest e, unframeL r.data.toList = (t, rest, e) := ⟨_, _, _, rfl⟩
      have hrl : r.data.toList.length = r.size := rfl
      have HT := Lib.hid (show unV r.data.toList = .tuple #[.string ⟨t.toArray⟩, .string ⟨rest.toArray⟩, .int .i64 e] by rw [unV, hT])
      by_cases he : e = 0
      · subst he
        have hlt := unframe_rest hT
        have hX := HU.out
        rw [scan_next hT] at hX
        have HX := Lib.hid (show scanL s.data.toList = (acc ++ [t] ++ (scanL rest).1, s.size - rest.length + (scanL rest).2.1, (scanL rest).2.2) by
          rw [hX, hrl, hsl]; simp only [List.append_assoc, List.singleton_append, Prod.mk.injEq, true_and, and_true]; omega)
        clear hX hnl hT
        go_wp2_with (fail)
        refine (runframe_any r _ (by omega)).mono ?_
        rintro e w1 ⟨rfl, hb⟩
        rw [HT.out]
        replace HB := Lib.hid (HB.out.trans hb)
        replace HV := Lib.hid (HV.out.bel hb); clear hb
        go_wp2_with (at_builtin; refine stop_here ?_)
        refine go_on ?_
        have hal : acc.length ≤ 1000000 := by omega
        refine append_glit strOk rfl _ _ rfl rfl HV.out _ _ _ [t] rfl rfl rfl (by simp [maxLen]; omega) (by simp; omega) HB.out.size (Or.inl rfl) ?_
        intro v3 w3 hown3 hbel3 hZ3
        obtain ⟨pp3, cap3, rfl⟩ := ownG_len hown3
        have HV3 := Lib.hid hown3
        have HB3 := Lib.hid (HB.out.trans_below hbel3)
        clear hown3 hbel3 HV
        have HSZ := Lib.hid (show (⟨rest.toArray⟩ : ByteArray).size = rest.length from by show rest.toArray.size = _; simp)
        go_wp2_with (fail)
        go_roundw
        case rel => exact ⟨acc ++ [t], ⟨rest.toArray⟩, rfl, by rw [HSZ.out, hsl]; omega, by rw [HSZ.out, hsl]; simp; omega, by simpa using HV3.out, by rw [HX.out, HSZ.out, hsl], HB3.out⟩
        case measure => simp [strLen]; rw [HSZ.out]; omega
      · have hX := HU.out
        rw [scan_end hnl hT he] at hX
        have HX := Lib.hid (show scanL s.data.toList = (acc, s.size - r.size, e) by rw [hX, hsl]; simp)
        have he2 : (e == 0) = false := by rw [beq_eq_false_iff_ne]; exact he
        have hsub : (s.size : Int) - r.size = ((s.size - r.size : Nat) : Int) := by omega
        clear hX hnl hT he
        go_wp2_with (fail)
        refine (runframe_any r _ (by omega)).mono ?_
        rintro e w1 ⟨rfl, hb⟩
        rw [HT.out]
        replace HB := Lib.hid (HB.out.trans hb)
        replace HV := Lib.hid (HV.out.bel hb); clear hb
        go_wp2_with (fail)
        go_ret3
        exact ⟨_, by rw [HX.out]; rfl, by rw [HX.out]; exact HV.out, HB.out⟩
end Go.Proofs.YtedopiojidaeiaaGreatDoor
/- journal.Batch and moultref7.Batch. -/
set_option linter.unusedSimpArgs false
set_option linter.unusedVariables false
namespace Go.Proofs.YtedopiojidaeiaaGreatDoor
open Go.RowKit Go.Deep

def batchV (l : List (List UInt8)) : Value := .tuple #[.string ⟨(batchS l).1.toArray⟩, .int .i64 (batchS l).2]
theorem ba_of (S : ByteArray) (l : List UInt8) (h : S.data.toList = l) : S = ⟨l.toArray⟩ := by
  apply ByteArray.ext; simp [← h]
theorem ba_len (S : ByteArray) (l : List UInt8) (h : S.data.toList = l) : S.size = l.length := by rw [← h]; rfl
theorem str_len (l : List UInt8) : (⟨l.toArray⟩ : ByteArray).size = l.length := by show l.toArray.size = _; simp
theorem str_list (l : List UInt8) : (⟨l.toArray⟩ : ByteArray).data.toList = l := by simp
def BtRel (L : List (List UInt8)) (w : World) (sv i : Value) (x : World) : Prop := ∃ (k : Nat) (S : ByteArray), i = .int .i64 k ∧ k ≤ L.length ∧ sv = .string S ∧ S.data.toList = putL L.length ++ (L.take k).flatMap oneL ∧ S.size ≤ 40000 ∧ Bel w x

set_option maxHeartbeats 2000000 in
theorem batch_any (w : World) (p : Option Addr) (cap : Nat) (L : List (List UInt8)) (h : StrsAt w p L) (hL : L.length ≤ maxLen) (ht : ∀ t ∈ L, t.length ≤ 1000000) :
    Calls Tryz.prog 11 #[.slice p L.length cap] w fun e w' => e = .returned (batchV L) ∧ Bel w w' := by
  unfold maxLen at hL
  have H := Lib.hid h; clear h
  by_cases h50 : 50 < L.length
  · have HV := Lib.hid (show batchV L = .tuple #[.string ⟨#[]⟩, .int .i64 11] by unfold batchV batchS; rw [if_pos h50])
    go_enter Tryz.func11, Tryz.ntmps11
    go_wp2_with (fail)
    go_ret2
    exact ⟨by rw [HV.out]; rfl, Bel.refl w⟩
  · go_enter Tryz.func11, Tryz.ntmps11
    go_wp2_with (fail)
    refine (put_any L.length w (by omega)).mono ?_
    rintro e w1 ⟨rfl, hb1⟩
    have HB1 := Lib.hid hb1; clear hb1
    go_wp2_with (fail)
    go_loopw [4, 17] (fun sv i x => BtRel L w sv i x) (fun _ i _ => L.length - (intOf i).toNat)
    case atStart =>
      have := szN_le L.length
      have h2 := putL_len L.length
      exact ⟨0, _, rfl, Nat.zero_le _, rfl, by simp, by rw [str_len]; omega, HB1.out⟩
    case round =>
      obtain ⟨k, S, rfl, hk, rfl, hS, hSz, hb⟩ := hrel
      have HB := Lib.hid hb; clear hb
      have HS := Lib.hid hS
      by_cases hlt : k < L.length
      · obtain ⟨a, rfl, hc⟩ := (H.out.bel HB.out) k hlt
        have htk := ht L[k] (List.getElem_mem hlt)
        have hsn := flat_snoc L k hlt
        obtain ⟨t, htd⟩ : ∃ t, t = L[k] := ⟨_, rfl⟩
        rw [← htd] at hc htk hsn
        have hz := szN_le t.length
        have hpl := putL_len t.length
        have htl := str_len t
        have hpz := str_len (putL t.length)
        rw [hpl] at hpz
        have hone := one_len t
        have hSl := ba_len S _ hS
        clear htd
        by_cases hlong : 40000 < S.size + szN t.length + t.length
        · have HV := Lib.hid (show batchV L = .tuple #[.string ⟨#[]⟩, .int .i64 10] by
            have hf := flat_take L (k + 1)
            have he := enc_len L
            rw [hsn, List.length_append] at hf
            rw [List.length_append, putL_len] at hSl
            unfold batchV batchS
            rw [if_neg h50, if_pos (by omega)])
          clear hS hSl hsn
          go_wp2_with (fail)
          refine (put_any t.length _ (by omega)).mono ?_
          rintro e w2 ⟨rfl, hb2⟩
          have HB2 := Lib.hid (HB.out.trans hb2); clear hb2
          go_wp2_with (fail)
          go_ret2
          exact ⟨by rw [HV.out]; rfl, HB2.out⟩
        · clear hSl
          go_wp2_with (fail)
          refine (put_any t.length _ (by omega)).mono ?_
          rintro e w2 ⟨rfl, hb2⟩
          have HB2 := Lib.hid (HB.out.trans hb2); clear hb2
          go_wp2_with (fail)
          go_roundw
          case rel => exact ⟨k + 1, S ++ (⟨(putL t.length).toArray⟩ ++ ⟨t.toArray⟩), by go_num, hlt, rfl, by
            rw [hsn]; simp [HS.out, oneL], by
            rw [ByteArray.size_append, ByteArray.size_append, hpz, htl]; omega, HB2.out⟩
          case measure => simp [intOf]; omega
      · obtain rfl : k = L.length := by omega
        have HV := Lib.hid (show batchV L = .tuple #[.string S, .int .i64 0] by
          rw [List.take_length] at hS
          have he : S.data.toList = encL L := hS
          have hz := ba_len S _ he
          unfold batchV
          rw [batch_of (by omega) (by omega), ← ba_of S _ he])
        clear hS
        go_wp2_with (fail)
        go_ret2
        exact ⟨by rw [HV.out]; rfl, HB.out⟩
def RbRel (L : List (List UInt8)) (w : World) (sv i : Value) (x : World) : Prop := ∃ (k : Nat) (S : ByteArray), i = .int .i64 k ∧ k ≤ L.length ∧ sv = .string S ∧ S.data.toList = putL L.length ++ (L.take k).flatMap oneL ∧ S.size ≤ 9 + 40009 * k ∧ (∀ j (h : j < k) (h' : j < L.length), L[j].length ≤ 40000) ∧ Bel w x
theorem flat_any_le {L : List (List UInt8)} {k : Nat} (hk : k < L.length) : L[k].length ≤ (L.flatMap oneL).length := mem_len (List.getElem_mem hk)
set_option maxHeartbeats 4000000 in
set_option maxRecDepth 20000 in
theorem rbatch_any (w : World) (p : Option Addr) (cap : Nat) (L : List (List UInt8)) (h : StrsAt w p L) (hL : L.length ≤ maxLen) (ht : ∀ t ∈ L, t.length ≤ 1000000) :
    Calls Tryz.prog 12 #[.slice p L.length cap] w fun e w' => e = .returned (batchV L) ∧ Bel w w' := by
  unfold maxLen at hL
  have H := Lib.hid h; clear h
  by_cases h50 : 50 < L.length
  · have HV := Lib.hid (show batchV L = .tuple #[.string ⟨#[]⟩, .int .i64 11] by unfold batchV batchS; rw [if_pos h50])
    go_enter Tryz.func12, Tryz.ntmps12
    go_wp2_with (fail)
    go_ret2
    exact ⟨by rw [HV.out]; rfl, Bel.refl w⟩
  · go_enter Tryz.func12, Tryz.ntmps12
    go_wp2_with (fail)
    refine (rput_any L.length w (by omega)).mono ?_
    rintro e w1 ⟨rfl, hb1⟩
    have HB1 := Lib.hid hb1; clear hb1
    go_wp2_with (fail)
    go_loopw [4, 5] (fun sv i x => RbRel L w sv i x) (fun _ i _ => L.length - (intOf i).toNat)
    case atStart =>
      have := szN_le L.length
      have h2 := putL_len L.length
      exact ⟨0, _, rfl, Nat.zero_le _, rfl, by simp, by rw [str_len]; omega, fun j hj => absurd hj (by omega), HB1.out⟩
    case round =>
      obtain ⟨k, S, rfl, hk, rfl, hS, hSz, hj, hb⟩ := hrel
      have HJ := Lib.hid hj; clear hj
      have HB := Lib.hid hb; clear hb
      have HS := Lib.hid hS; clear hS
      by_cases hlt : k < L.length
      · obtain ⟨a, rfl, hc⟩ := (H.out.bel HB.out) k hlt
        have htk := ht L[k] (List.getElem_mem hlt)
        have hsn := flat_snoc L k hlt
        have hle := flat_any_le hlt
        have hlj := Lib.hid (show ∀ j (h : j < k + 1) (h' : j < L.length), L[k].length ≤ 40000 → L[j].length ≤ 40000 from fun j h h' hk' => by
          rcases Nat.lt_or_ge j k with hj | hj
          · exact HJ.out j hj h'
          · obtain rfl : j = k := by omega
            exact hk')
        obtain ⟨t, htd⟩ : ∃ t, t = L[k] := ⟨_, rfl⟩
        rw [← htd] at hc htk hsn hle hlj
        have hz := szN_le t.length
        have hpl := putL_len t.length
        have htl := str_len t
        have hpz := str_len (putL t.length)
        rw [hpl] at hpz
        have HSN := Lib.hid hsn
        clear htd hsn
        by_cases hlong : 40000 < t.length
        · have HV := Lib.hid (show batchV L = .tuple #[.string ⟨#[]⟩, .int .i64 10] by
            have he := enc_len L
            unfold batchV batchS
            rw [if_neg h50, if_pos (by omega)])
          go_wp2_with (fail)
          go_ret2
          exact ⟨by rw [HV.out]; rfl, HB.out⟩
        · clear hle
          go_wp2_with (fail)
          refine wp_region_held_drew (S := fun z => z.cell? (a.add k) = some (.string ⟨t.toArray⟩)) (by kernel_rfl) hc (fun hHeld => ?_)
          refine wpAnyH_take (i := 0) (oi := { dst := some 25, op := Op.move (Operand.tmp 4), type := 9, pos := "ref.go:28", after := #[], guard := none }) (v := ?_) rfl (by kernel_rfl) (by kernel_rfl) (by kernel_rfl) (fun _ _ _ h => h) (Or.inl ⟨by rfl, ?_⟩) (by assumption) ?_
          rotate_left
          · (intro w hSw; (try dsimp only at hSw); first | (go_simp; done) | (go_simp; with_reducible rfl))
          try simp only [Act.put, List.setIfInBounds_toArray, List.set_cons_zero, List.set_cons_succ]
          refine wpAnyH_take (i := 1) (oi := { dst := some 26, op := Op.move (Operand.tmp 0), type := 22, pos := "ref.go:28", after := #[], guard := none }) (v := ?_) rfl (by kernel_rfl) (by kernel_rfl) (by kernel_rfl) (fun _ _ _ h => h) (Or.inl ⟨by rfl, ?_⟩) (by assumption) ?_
          rotate_left
          · (intro w hSw; (try dsimp only at hSw); first | (go_simp; done) | (go_simp; with_reducible rfl))
          try simp only [Act.put, List.setIfInBounds_toArray, List.set_cons_zero, List.set_cons_succ]
          refine wpAnyH_take (i := 2) (oi := { dst := some 27, op := Op.move (Operand.tmp 5), type := 3, pos := "ref.go:28", after := #[], guard := none }) (v := ?_) rfl (by kernel_rfl) (by kernel_rfl) (by kernel_rfl) (fun _ _ _ h => h) (Or.inl ⟨by rfl, ?_⟩) (by assumption) ?_
          rotate_left
          · (intro w hSw; (try dsimp only at hSw); first | (go_simp; done) | (go_simp; with_reducible rfl))
          try simp only [Act.put, List.setIfInBounds_toArray, List.set_cons_zero, List.set_cons_succ]
          refine wpAnyH_take (i := 3) (oi := { dst := some 28, op := Op.indexAddr 22 (Operand.tmp 26) (Operand.tmp 27), type := 0, pos := "ref.go:28", after := #[{ on := 1, ground := Ground.data }, { on := 2, ground := Ground.data }], guard := none }) (v := ?_) rfl (by kernel_rfl) (by kernel_rfl) (by kernel_rfl) (fun _ _ _ h => h) (Or.inl ⟨by rfl, ?_⟩) (by assumption) ?_
          rotate_left
          · (intro w hSw; (try dsimp only at hSw); first | (go_simp; done) | (go_simp; with_reducible rfl))
          try simp only [Act.put, List.setIfInBounds_toArray, List.set_cons_zero, List.set_cons_succ]
          refine wpAnyH_take (i := 4) (oi := { dst := some 29, op := Op.load 9 (Operand.tmp 28), type := 9, pos := "ref.go:28", after := #[{ on := 3, ground := Ground.data }], guard := none }) (v := ?_) rfl (by kernel_rfl) (by kernel_rfl) (by kernel_rfl) (fun _ _ _ h => h) (Or.inl ⟨by rfl, ?_⟩) (by assumption) ?_
          rotate_left
          · (intro w hSw; (try dsimp only at hSw); first | (go_simp; done) | (go_simp; with_reducible rfl))
          try simp only [Act.put, List.setIfInBounds_toArray, List.set_cons_zero, List.set_cons_succ]
          refine wpAnyH_take (i := 5) (oi := { dst := some 30, op := Op.call { callee := Callee.builtin Builtin.len, args := #[Operand.tmp 29], argTypes := #[9] }, type := 3, pos := "ref.go:28", after := #[{ on := 4, ground := Ground.data }], guard := none }) (v := ?_) rfl (by kernel_rfl) (by kernel_rfl) (by kernel_rfl) (fun _ _ _ h => h) (Or.inl ⟨by rfl, ?_⟩) (by assumption) ?_
          rotate_left
          · (intro w hSw; (try dsimp only at hSw); first | (go_simp; done) | (go_simp; with_reducible rfl))
          try simp only [Act.put, List.setIfInBounds_toArray, List.set_cons_zero, List.set_cons_succ]
          refine wpAnyH_take (i := 6) (oi := { dst := some 31, op := Op.convert 3 80 (Operand.tmp 30), type := 80, pos := "ref.go:28", after := #[{ on := 5, ground := Ground.data }], guard := none }) (v := ?_) rfl (by kernel_rfl) (by kernel_rfl) (by kernel_rfl) (fun _ _ _ h => h) (Or.inl ⟨by rfl, ?_⟩) (by assumption) ?_
          rotate_left
          · (intro w hSw; (try dsimp only at hSw); first | (go_simp; done) | (go_simp; with_reducible rfl))
          try simp only [Act.put, List.setIfInBounds_toArray, List.set_cons_zero, List.set_cons_succ]
          refine wpAnyH_take (i := 9) (oi := { dst := some 34, op := Op.move (Operand.tmp 0), type := 22, pos := "ref.go:28", after := #[], guard := none }) (v := ?_) rfl (by kernel_rfl) (by kernel_rfl) (by kernel_rfl) (fun _ _ _ h => h) (Or.inl ⟨by rfl, ?_⟩) (by assumption) ?_
          rotate_left
          · (intro w hSw; (try dsimp only at hSw); first | (go_simp; done) | (go_simp; with_reducible rfl))
          try simp only [Act.put, List.setIfInBounds_toArray, List.set_cons_zero, List.set_cons_succ]
          refine wpAnyH_take (i := 10) (oi := { dst := some 35, op := Op.move (Operand.tmp 5), type := 3, pos := "ref.go:28", after := #[], guard := none }) (v := ?_) rfl (by kernel_rfl) (by kernel_rfl) (by kernel_rfl) (fun _ _ _ h => h) (Or.inl ⟨by rfl, ?_⟩) (by assumption) ?_
          rotate_left
          · (intro w hSw; (try dsimp only at hSw); first | (go_simp; done) | (go_simp; with_reducible rfl))
          try simp only [Act.put, List.setIfInBounds_toArray, List.set_cons_zero, List.set_cons_succ]
          refine wpAnyH_take (i := 11) (oi := { dst := some 36, op := Op.indexAddr 22 (Operand.tmp 34) (Operand.tmp 35), type := 0, pos := "ref.go:28", after := #[{ on := 9, ground := Ground.data }, { on := 10, ground := Ground.data }], guard := none }) (v := ?_) rfl (by kernel_rfl) (by kernel_rfl) (by kernel_rfl) (fun _ _ _ h => h) (Or.inl ⟨by rfl, ?_⟩) (by assumption) ?_
          rotate_left
          · (intro w hSw; (try dsimp only at hSw); first | (go_simp; done) | (go_simp; with_reducible rfl))
          try simp only [Act.put, List.setIfInBounds_toArray, List.set_cons_zero, List.set_cons_succ]
          refine wpAnyH_take (i := 12) (oi := { dst := some 37, op := Op.load 9 (Operand.tmp 36), type := 9, pos := "ref.go:28", after := #[{ on := 11, ground := Ground.data }], guard := none }) (v := ?_) rfl (by kernel_rfl) (by kernel_rfl) (by kernel_rfl) (fun _ _ _ h => h) (Or.inl ⟨by rfl, ?_⟩) (by assumption) ?_
          rotate_left
          · (intro w hSw; (try dsimp only at hSw); first | (go_simp; done) | (go_simp; with_reducible rfl))
          try simp only [Act.put, List.setIfInBounds_toArray, List.set_cons_zero, List.set_cons_succ]
          refine wpAnyH_ready (rs := [7]) (by kernel_rfl) (by simp) ?_
          refine AllReadyH.cons (o := { dst := some 32, op := Op.call { callee := Callee.value (Operand.func 38), args := #[Operand.tmp 31], argTypes := #[80] }, type := 9, pos := "ref.go:28", after := #[{ on := 6, ground := Ground.data }], guard := none }) rfl (fun K hK => ?_) AllReadyH.nil
          go_simp
          rw [show IntKind.u64.wrap (t.length : Int) = (t.length : Int) from u64_in _ (by omega) (by omega)]
          refine (rput_any t.length _ (by omega)).mono ?_
          rintro e w2 ⟨rfl, hb2⟩
          have HB2 := Lib.hid (HB.out.drew.trans hb2)
          have hc2 := cell_later hb2 (show _ = _ from hc)
          clear hb2
          dsimp only
          refine hK.out _ _ hc2 (fun hHeld => ?_)
          clear hK K
          try simp only [Act.put, List.setIfInBounds_toArray, List.set_cons_zero, List.set_cons_succ]
          refine wpAnyH_take (i := 8) (oi := { dst := some 33, op := Op.binOp BinOp.add 9 (Operand.tmp 25) (Operand.tmp 32) 9, type := 9, pos := "ref.go:28", after := #[{ on := 0, ground := Ground.data }, { on := 7, ground := Ground.data }], guard := none }) (v := ?_) rfl (by kernel_rfl) (by kernel_rfl) (by kernel_rfl) (fun _ _ _ h => h) (Or.inl ⟨by rfl, ?_⟩) (by assumption) ?_
          rotate_left
          · (intro w hSw; (try dsimp only at hSw); first | (go_simp; rw [if_neg (by omega)]; done))
          try simp only [Act.put, List.setIfInBounds_toArray, List.set_cons_zero, List.set_cons_succ]
          refine wpAnyH_take (i := 13) (oi := { dst := some 38, op := Op.binOp BinOp.add 9 (Operand.tmp 33) (Operand.tmp 37) 9, type := 9, pos := "ref.go:28", after := #[{ on := 8, ground := Ground.data }, { on := 12, ground := Ground.data }], guard := none }) (v := ?_) rfl (by kernel_rfl) (by kernel_rfl) (by kernel_rfl) (fun _ _ _ h => h) (Or.inl ⟨by rfl, ?_⟩) (by assumption) ?_
          rotate_left
          · (intro w hSw; (try dsimp only at hSw); first | (go_simp; rw [if_neg (by omega)]; done))
          try simp only [Act.put, List.setIfInBounds_toArray, List.set_cons_zero, List.set_cons_succ]
          refine wpAnyH_take (i := 14) (oi := { dst := some 4, op := Op.assign (Operand.tmp 38), type := 9, pos := "ref.go:28", after := #[{ on := 13, ground := Ground.data }, { on := 7, ground := Ground.chain }, { on := 0, ground := Ground.phase }, { on := 1, ground := Ground.phase }, { on := 2, ground := Ground.phase }, { on := 3, ground := Ground.phase }, { on := 4, ground := Ground.phase }, { on := 5, ground := Ground.phase }, { on := 6, ground := Ground.phase }, { on := 7, ground := Ground.phase }, { on := 8, ground := Ground.phase }, { on := 9, ground := Ground.phase }, { on := 10, ground := Ground.phase }, { on := 11, ground := Ground.phase }, { on := 12, ground := Ground.phase }, { on := 13, ground := Ground.phase }], guard := none }) (v := ?_) rfl (by kernel_rfl) (by kernel_rfl) (by kernel_rfl) (fun _ _ _ h => h) (Or.inl ⟨by rfl, ?_⟩) (by assumption) ?_
          rotate_left
          · (intro w hSw; (try dsimp only at hSw); first | (go_simp; done) | (go_simp; with_reducible rfl))
          try simp only [Act.put, List.setIfInBounds_toArray, List.set_cons_zero, List.set_cons_succ]
          refine wpAnyH_done (by kernel_rfl) ?_ _
          go_wp2_with (fail)
          go_roundw
          case rel => exact ⟨k + 1, (S ++ ⟨(putL t.length).toArray⟩) ++ ⟨t.toArray⟩, by go_num, hlt, rfl, by
            rw [HSN.out]; simp [HS.out, oneL], by
            rw [ByteArray.size_append, ByteArray.size_append, hpz, htl]; omega, fun j h h' => hlj.out j h h' (by omega), HB2.out⟩
          case measure => simp [intOf]; omega
      · obtain rfl : k = L.length := by omega
        have hS := HS.out
        rw [List.take_length] at hS
        have he : S.data.toList = encL L := hS
        have hz := ba_len S _ he
        by_cases hlong : 40000 < S.size
        · have HV := Lib.hid (show batchV L = .tuple #[.string ⟨#[]⟩, .int .i64 10] by
            unfold batchV batchS
            rw [if_neg h50, if_pos (by omega)])
          clear hS he hz
          go_wp2_with (fail)
          go_ret2
          exact ⟨by rw [HV.out]; rfl, HB.out⟩
        · have HV := Lib.hid (show batchV L = .tuple #[.string S, .int .i64 0] by
            unfold batchV
            rw [batch_of (by omega) (by omega), ← ba_of S _ he])
          clear hS he hz
          go_wp2_with (fail)
          go_ret2
          exact ⟨by rw [HV.out]; rfl, HB.out⟩
end Go.Proofs.YtedopiojidaeiaaGreatDoor
