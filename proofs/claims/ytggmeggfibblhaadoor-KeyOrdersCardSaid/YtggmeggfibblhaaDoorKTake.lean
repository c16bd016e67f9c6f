/- key.read and key.Take: the value that stands ahead of some bytes. -/
import Derived.Test.YtggmeggfibblhaaDoorKText
set_option linter.unusedSimpArgs false
set_option linter.unusedVariables false
namespace Go.Proofs.YtggmeggfibblhaaDoor
open Go.RowKit Go.Deep

/-- What read answers, as far as Take asks. -/
def RdPost (l : List UInt8) (w : World) (e : Ending) (w' : World) : Prop :=
  ∃ (u : KV) (rest : List UInt8) (ok : Bool), e = .returned (.tuple #[u.val, .string ⟨rest.toArray⟩, .bool ok]) ∧ Bel w w' ∧ u.s.size ≤ maxLen ∧ (ok = true → u.right = true → readL l = some (u, rest)) ∧ ((ok = false ∨ u.right = false) → readL l = none)
theorem ext_one (s : ByteArray) : (s.extract 1 s.size).data.toList = s.data.toList.drop 1 := ext_end s 1
theorem list_head (s : ByteArray) (h : 0 < s.size) : s.data.toList = s[0] :: s.data.toList.drop 1 := by
  have := drop_cons s 0 h
  rw [List.drop_zero] at this
  exact this

theorem read_kind (b : UInt8) (r : List UInt8) (h : ¬ (1 ≤ b.toNat ∧ b.toNat ≤ 6)) : readL (b :: r) = none := by
  have hw : widK b.toNat = 0 := by unfold widK; (repeat' split) <;> omega
  rw [readL, if_pos hw]
  cases unescL r with
  | none => rfl
  | some p =>
    obtain ⟨t, rest⟩ := p
    simp only
    rw [if_neg]
    unfold rightB
    have e1 : ¬ (b.toNat : Int) = 1 := by omega
    have e2 : ¬ (b.toNat : Int) = 2 := by omega
    have e3 : ¬ (b.toNat : Int) = 3 := by omega
    have e4 : ¬ (b.toNat : Int) = 4 := by omega
    have e5 : ¬ (b.toNat : Int) = 5 := by omega
    have e6 : ¬ (b.toNat : Int) = 6 := by omega
    rw [if_neg e1, if_neg e2, if_neg e3, if_neg e4, if_neg e5, if_neg e6]; simp
theorem read_num (b : UInt8) (r : List UInt8) (h : 1 ≤ b.toNat ∧ b.toNat ≤ 4) : readL (b :: r) = if r.length < widK b.toNat then none else
    if rightB b.toNat ((sumL (r.take (widK b.toNat)) : Int) - biasK b.toNat) [] = true then some (⟨b.toNat, (sumL (r.take (widK b.toNat)) : Int) - biasK b.toNat, ⟨#[]⟩⟩, r.drop (widK b.toNat)) else none := by
  have hw : ¬ widK b.toNat = 0 := by unfold widK; (repeat' split) <;> omega
  rw [readL, if_neg hw]
theorem read_textN (b : UInt8) (r : List UInt8) (h : b.toNat = 5 ∨ b.toNat = 6) (ht : textR r = none) : readL (b :: r) = none := by
  have hw : widK b.toNat = 0 := by unfold widK; (repeat' split) <;> omega
  rw [readL, if_pos hw]
  unfold textR at ht
  cases hu : unescL r with
  | none => rfl
  | some p =>
    obtain ⟨t, rest⟩ := p
    rw [hu] at ht
    simp only at ht ⊢
    by_cases hl : t.length ≤ 1000
    · rw [if_pos hl] at ht; cases ht
    · rw [if_neg]
      rcases h with h | h <;> rw [h] <;> simp [rightB] <;> omega
theorem read_textS (b : UInt8) (r t rest : List UInt8) (h : b.toNat = 5 ∨ b.toNat = 6) (ht : textR r = some (t, rest)) : readL (b :: r) = if rightB b.toNat 0 t = true then some (⟨b.toNat, 0, ⟨t.toArray⟩⟩, rest) else none := by
  have hw : widK b.toNat = 0 := by unfold widK; (repeat' split) <;> omega
  rw [readL, if_pos hw]
  unfold textR at ht
  cases hu : unescL r with
  | none => rw [hu] at ht; cases ht
  | some p =>
    rw [hu] at ht
    simp only at ht
    split at ht
    · cases ht; rfl
    · cases ht

theorem not_right (v : KV) (h : true = false ∨ v.right = false) : ¬ v.right = true := by rcases h with h | h; { cases h }; { rw [h]; simp }
theorem textR_len {l t r : List UInt8} (h : textR l = some (t, r)) : t.length ≤ 1000 := by
  unfold textR at h
  cases hu : unescL l with
  | none => rw [hu] at h; cases h
  | some p =>
    rw [hu] at h
    simp only at h
    split at h
    · next hl => cases h; exact hl
    · cases h

set_option maxHeartbeats 4000000 in
theorem read_any (s : ByteArray) (w : World) (hs : s.size ≤ 1000000) (hstd : Std w) :
    Calls Tryd.prog 33 #[.string s] w (RdPost s.data.toList w) := by
  by_cases h0 : s.size = 0
  · obtain rfl : s = ⟨#[]⟩ := by apply ByteArray.ext; exact Array.eq_empty_of_size_eq_zero h0
    go_enter Tryd.func33, Tryd.ntmps33
    go_wp2_with (fail)
    exact bodyPost_ret (v := .tuple #[.agg #[.int .i64 0, .int .i64 0, .string ⟨#[]⟩], .string ⟨#[]⟩, .bool false]) (by simp [results, Tryd.results33, go_sem]) rfl
      ⟨⟨0, 0, ⟨#[]⟩⟩, [], false, rfl, (Bel.refl w).alloc _, by decide, fun h => (by cases h), fun _ => rfl⟩
  have h0' : 0 < s.size := by omega
  have hl := list_head s h0'
  have HL := Lib.hid hl
  have hne : s.toList.isEmpty = false := by rw [ByteArray.toList_eq, hl]; rfl
  clear hl
  have i1 : (0 : Int) < (s.size : Int) := by omega
  have i2 : (1 : Int) ≤ (s.size : Int) := by omega
  go_enter Tryd.func33, Tryd.ntmps33
  go_wp2_with (fail)
  go_region
  have hb8 := s[0].toNat_lt
  have hw64 : wrap64 (s[0].toNat : Int) = s[0].toNat := by unfold wrap64; omega
  rw [hw64]
  obtain ⟨k, hk⟩ : ∃ k : Nat, s[0].toNat = k := ⟨_, rfl⟩
  have HK := Lib.hid hk
  rw [hk] at hb8 ⊢
  clear hk hw64
  have hB0 : Bel w ((w.alloc (.cells #[.int .i64 k, .int .i64 0, .string ⟨#[]⟩] 23)).drew) := ((Bel.refl w).alloc _).drew
  have hS0 := hstd.bel hB0
  have HB0 := Lib.hid hB0
  clear hstd hB0
  have hz1 : (s.extract 1 s.size).size = s.size - 1 := by rw [ByteArray.size_extract]; omega
  have hd1 := Lib.hid (ext_one s)
  by_cases hk1 : 1 ≤ k ∧ k ≤ 4
  · have hr := read_num s[0] (s.data.toList.drop 1) (by rw [HK.out]; exact hk1)
    rw [← HL.out, HK.out] at hr
    have HR := Lib.hid hr; clear hr
    have hcall := number_any k (s.extract 1 s.size) _ (by omega) (by omega) hS0
    have hlen : (s.data.toList.drop 1).length = (s.extract 1 s.size).size := by rw [List.length_drop, hz1]; rfl
    have HLEN := Lib.hid hlen; clear hlen
    have HCALL := Lib.hid hcall
    clear hcall
    obtain rfl | rfl | rfl | rfl : k = 1 ∨ k = 2 ∨ k = 3 ∨ k = 4 := by omega
    · have HC : Calls Tryd.prog 38 #[.int .i64 1, .string (s.extract 1 s.size)] _ fun e w' => e = .returned (numV 1 (s.extract 1 s.size)) ∧ Bel _ w' := HCALL.out
      clear HCALL
      go_wp2_with (fail)
      refine HC.mono ?_
      rintro e w1 ⟨rfl, hb⟩
      clear HC
      have hlt1 : w.heap.size < w1.heap.size := by have := hb.size; simp [World.drew] at this; omega
      have q0 : w1.cell? ⟨w.heap.size, 0, none⟩ = some (.int .i64 1) := cell_later hb (by go_simp)
      have q1 : w1.cell? ⟨w.heap.size, 1, none⟩ = some (.int .i64 0) := cell_later hb (by go_simp)
      have q2 : w1.cell? ⟨w.heap.size, 2, none⟩ = some (.string ⟨#[]⟩) := cell_later hb (by go_simp)
      have f0 : w1.frozen? ⟨w.heap.size, 0, none⟩ = false := (hb.frozen _ _ (by simp [World.drew])).trans (by go_simp)
      have f1 : w1.frozen? ⟨w.heap.size, 1, none⟩ = false := (hb.frozen _ _ (by simp [World.drew])).trans (by go_simp)
      have f2 : w1.frozen? ⟨w.heap.size, 2, none⟩ = false := (hb.frozen _ _ (by simp [World.drew])).trans (by go_simp)
      replace HB0 := Lib.hid (HB0.out.trans hb)
      clear hb
      by_cases hl : (s.extract 1 s.size).size < 1
      · have HR2 := Lib.hid (HR.out.trans (if_pos (by rw [HLEN.out]; exact hl)))
        have hv : numV 1 (s.extract 1 s.size) = .tuple #[.int .i64 0, .string ⟨#[]⟩, .bool false] := if_pos hl
        rw [hv]
        clear hv HR
        go_wp2_with (fail)
        exact bodyPost_ret (v := .tuple #[.agg #[.int .i64 1, .int .i64 0, .string ⟨#[]⟩], .string ⟨#[]⟩, .bool false]) (by simp [results, Tryd.results33, go_sem, q0, q1, q2]) rfl
          ⟨⟨1, 0, ⟨#[]⟩⟩, [], false, rfl, by first | exact HB0.out | exact HB0.out.setCell (Nat.le_refl _) _ | exact (((HB0.out.setCell (Nat.le_refl _) _).setCell (Nat.le_refl _) _).setCell (Nat.le_refl _) _).setCell (Nat.le_refl _) _, by decide, fun h => (by cases h), fun _ => HR2.out⟩
      · obtain ⟨N, hN⟩ : ∃ N : Int, ((sumL ((s.extract 1 s.size).data.toList.take 1) : Nat) : Int) - ((biasK 1 : Nat) : Int) = N := ⟨_, rfl⟩
        obtain ⟨R, hR⟩ : ∃ R : List UInt8, (s.extract 1 s.size).data.toList.drop 1 = R := ⟨_, rfl⟩
        have hr2 : readL s.data.toList = if rightB 1 (((sumL ((s.data.toList.drop 1).take 1) : Nat) : Int) - ((biasK 1 : Nat) : Int)) [] = true then some (⟨1, ((sumL ((s.data.toList.drop 1).take 1) : Nat) : Int) - ((biasK 1 : Nat) : Int), ⟨#[]⟩⟩, (s.data.toList.drop 1).drop 1) else none := HR.out.trans (if_neg (by rw [HLEN.out]; exact hl))
        have hv : numV 1 (s.extract 1 s.size) = .tuple #[.int .i64 N, .string ⟨R.toArray⟩, .bool true] := by rw [← hN, ← hR]; exact if_neg hl
        rw [hv]
        rw [hd1.out] at hN hR
        rw [hN, hR] at hr2
        have HR2 := Lib.hid hr2
        clear hv HR hr2 hN hR
        go_wp2_with (fail)
        exact bodyPost_ret (v := .tuple #[.agg #[.int .i64 1, .int .i64 N, .string ⟨#[]⟩], .string ⟨R.toArray⟩, .bool true]) (by simp [results, Tryd.results33, go_sem, q0, q1, q2]) rfl
          ⟨⟨1, N, ⟨#[]⟩⟩, R, true, rfl, by first | exact (((HB0.out.setCell (Nat.le_refl _) _).setCell (Nat.le_refl _) _).setCell (Nat.le_refl _) _).setCell (Nat.le_refl _) _ | exact HB0.out.setCell (Nat.le_refl _) _, Nat.zero_le _, fun _ hr => HR2.out.trans (if_pos hr), fun h => HR2.out.trans (if_neg (not_right _ h))⟩
    · have HC : Calls Tryd.prog 38 #[.int .i64 2, .string (s.extract 1 s.size)] _ fun e w' => e = .returned (numV 2 (s.extract 1 s.size)) ∧ Bel _ w' := HCALL.out
      clear HCALL
      go_wp2_with (fail)
      refine HC.mono ?_
      rintro e w1 ⟨rfl, hb⟩
      clear HC
      have hlt1 : w.heap.size < w1.heap.size := by have := hb.size; simp [World.drew] at this; omega
      have q0 : w1.cell? ⟨w.heap.size, 0, none⟩ = some (.int .i64 2) := cell_later hb (by go_simp)
      have q1 : w1.cell? ⟨w.heap.size, 1, none⟩ = some (.int .i64 0) := cell_later hb (by go_simp)
      have q2 : w1.cell? ⟨w.heap.size, 2, none⟩ = some (.string ⟨#[]⟩) := cell_later hb (by go_simp)
      have f0 : w1.frozen? ⟨w.heap.size, 0, none⟩ = false := (hb.frozen _ _ (by simp [World.drew])).trans (by go_simp)
      have f1 : w1.frozen? ⟨w.heap.size, 1, none⟩ = false := (hb.frozen _ _ (by simp [World.drew])).trans (by go_simp)
      have f2 : w1.frozen? ⟨w.heap.size, 2, none⟩ = false := (hb.frozen _ _ (by simp [World.drew])).trans (by go_simp)
      replace HB0 := Lib.hid (HB0.out.trans hb)
      clear hb
      by_cases hl : (s.extract 1 s.size).size < 2
      · have HR2 := Lib.hid (HR.out.trans (if_pos (by rw [HLEN.out]; exact hl)))
        have hv : numV 2 (s.extract 1 s.size) = .tuple #[.int .i64 0, .string ⟨#[]⟩, .bool false] := if_pos hl
        rw [hv]
        clear hv HR
        go_wp2_with (fail)
        exact bodyPost_ret (v := .tuple #[.agg #[.int .i64 2, .int .i64 0, .string ⟨#[]⟩], .string ⟨#[]⟩, .bool false]) (by simp [results, Tryd.results33, go_sem, q0, q1, q2]) rfl
          ⟨⟨2, 0, ⟨#[]⟩⟩, [], false, rfl, by first | exact HB0.out | exact HB0.out.setCell (Nat.le_refl _) _ | exact (((HB0.out.setCell (Nat.le_refl _) _).setCell (Nat.le_refl _) _).setCell (Nat.le_refl _) _).setCell (Nat.le_refl _) _, by decide, fun h => (by cases h), fun _ => HR2.out⟩
      · obtain ⟨N, hN⟩ : ∃ N : Int, ((sumL ((s.extract 1 s.size).data.toList.take 2) : Nat) : Int) - ((biasK 2 : Nat) : Int) = N := ⟨_, rfl⟩
        obtain ⟨R, hR⟩ : ∃ R : List UInt8, (s.extract 1 s.size).data.toList.drop 2 = R := ⟨_, rfl⟩
        have hr2 : readL s.data.toList = if rightB 2 (((sumL ((s.data.toList.drop 1).take 2) : Nat) : Int) - ((biasK 2 : Nat) : Int)) [] = true then some (⟨2, ((sumL ((s.data.toList.drop 1).take 2) : Nat) : Int) - ((biasK 2 : Nat) : Int), ⟨#[]⟩⟩, (s.data.toList.drop 1).drop 2) else none := HR.out.trans (if_neg (by rw [HLEN.out]; exact hl))
        have hv : numV 2 (s.extract 1 s.size) = .tuple #[.int .i64 N, .string ⟨R.toArray⟩, .bool true] := by rw [← hN, ← hR]; exact if_neg hl
        rw [hv]
        rw [hd1.out] at hN hR
        rw [hN, hR] at hr2
        have HR2 := Lib.hid hr2
        clear hv HR hr2 hN hR
        go_wp2_with (fail)
        exact bodyPost_ret (v := .tuple #[.agg #[.int .i64 2, .int .i64 N, .string ⟨#[]⟩], .string ⟨R.toArray⟩, .bool true]) (by simp [results, Tryd.results33, go_sem, q0, q1, q2]) rfl
          ⟨⟨2, N, ⟨#[]⟩⟩, R, true, rfl, by first | exact (((HB0.out.setCell (Nat.le_refl _) _).setCell (Nat.le_refl _) _).setCell (Nat.le_refl _) _).setCell (Nat.le_refl _) _ | exact HB0.out.setCell (Nat.le_refl _) _, Nat.zero_le _, fun _ hr => HR2.out.trans (if_pos hr), fun h => HR2.out.trans (if_neg (not_right _ h))⟩
    · have HC : Calls Tryd.prog 38 #[.int .i64 3, .string (s.extract 1 s.size)] _ fun e w' => e = .returned (numV 3 (s.extract 1 s.size)) ∧ Bel _ w' := HCALL.out
      clear HCALL
      go_wp2_with (fail)
      refine HC.mono ?_
      rintro e w1 ⟨rfl, hb⟩
      clear HC
      have hlt1 : w.heap.size < w1.heap.size := by have := hb.size; simp [World.drew] at this; omega
      have q0 : w1.cell? ⟨w.heap.size, 0, none⟩ = some (.int .i64 3) := cell_later hb (by go_simp)
      have q1 : w1.cell? ⟨w.heap.size, 1, none⟩ = some (.int .i64 0) := cell_later hb (by go_simp)
      have q2 : w1.cell? ⟨w.heap.size, 2, none⟩ = some (.string ⟨#[]⟩) := cell_later hb (by go_simp)
      have f0 : w1.frozen? ⟨w.heap.size, 0, none⟩ = false := (hb.frozen _ _ (by simp [World.drew])).trans (by go_simp)
      have f1 : w1.frozen? ⟨w.heap.size, 1, none⟩ = false := (hb.frozen _ _ (by simp [World.drew])).trans (by go_simp)
      have f2 : w1.frozen? ⟨w.heap.size, 2, none⟩ = false := (hb.frozen _ _ (by simp [World.drew])).trans (by go_simp)
      replace HB0 := Lib.hid (HB0.out.trans hb)
      clear hb
      by_cases hl : (s.extract 1 s.size).size < 4
      · have HR2 := Lib.hid (HR.out.trans (if_pos (by rw [HLEN.out]; exact hl)))
        have hv : numV 3 (s.extract 1 s.size) = .tuple #[.int .i64 0, .string ⟨#[]⟩, .bool false] := if_pos hl
        rw [hv]
        clear hv HR
        go_wp2_with (fail)
        exact bodyPost_ret (v := .tuple #[.agg #[.int .i64 3, .int .i64 0, .string ⟨#[]⟩], .string ⟨#[]⟩, .bool false]) (by simp [results, Tryd.results33, go_sem, q0, q1, q2]) rfl
          ⟨⟨3, 0, ⟨#[]⟩⟩, [], false, rfl, by first | exact HB0.out | exact HB0.out.setCell (Nat.le_refl _) _ | exact (((HB0.out.setCell (Nat.le_refl _) _).setCell (Nat.le_refl _) _).setCell (Nat.le_refl _) _).setCell (Nat.le_refl _) _, by decide, fun h => (by cases h), fun _ => HR2.out⟩
      · obtain ⟨N, hN⟩ : ∃ N : Int, ((sumL ((s.extract 1 s.size).data.toList.take 4) : Nat) : Int) - ((biasK 3 : Nat) : Int) = N := ⟨_, rfl⟩
        obtain ⟨R, hR⟩ : ∃ R : List UInt8, (s.extract 1 s.size).data.toList.drop 4 = R := ⟨_, rfl⟩
        have hr2 : readL s.data.toList = if rightB 3 (((sumL ((s.data.toList.drop 1).take 4) : Nat) : Int) - ((biasK 3 : Nat) : Int)) [] = true then some (⟨3, ((sumL ((s.data.toList.drop 1).take 4) : Nat) : Int) - ((biasK 3 : Nat) : Int), ⟨#[]⟩⟩, (s.data.toList.drop 1).drop 4) else none := HR.out.trans (if_neg (by rw [HLEN.out]; exact hl))
        have hv : numV 3 (s.extract 1 s.size) = .tuple #[.int .i64 N, .string ⟨R.toArray⟩, .bool true] := by rw [← hN, ← hR]; exact if_neg hl
        rw [hv]
        rw [hd1.out] at hN hR
        rw [hN, hR] at hr2
        have HR2 := Lib.hid hr2
        clear hv HR hr2 hN hR
        go_wp2_with (fail)
        exact bodyPost_ret (v := .tuple #[.agg #[.int .i64 3, .int .i64 N, .string ⟨#[]⟩], .string ⟨R.toArray⟩, .bool true]) (by simp [results, Tryd.results33, go_sem, q0, q1, q2]) rfl
          ⟨⟨3, N, ⟨#[]⟩⟩, R, true, rfl, by first | exact (((HB0.out.setCell (Nat.le_refl _) _).setCell (Nat.le_refl _) _).setCell (Nat.le_refl _) _).setCell (Nat.le_refl _) _ | exact HB0.out.setCell (Nat.le_refl _) _, Nat.zero_le _, fun _ hr => HR2.out.trans (if_pos hr), fun h => HR2.out.trans (if_neg (not_right _ h))⟩
    · have HC : Calls Tryd.prog 38 #[.int .i64 4, .string (s.extract 1 s.size)] _ fun e w' => e = .returned (numV 4 (s.extract 1 s.size)) ∧ Bel _ w' := HCALL.out
      clear HCALL
      go_wp2_with (fail)
      refine HC.mono ?_
      rintro e w1 ⟨rfl, hb⟩
      clear HC
      have hlt1 : w.heap.size < w1.heap.size := by have := hb.size; simp [World.drew] at this; omega
      have q0 : w1.cell? ⟨w.heap.size, 0, none⟩ = some (.int .i64 4) := cell_later hb (by go_simp)
      have q1 : w1.cell? ⟨w.heap.size, 1, none⟩ = some (.int .i64 0) := cell_later hb (by go_simp)
      have q2 : w1.cell? ⟨w.heap.size, 2, none⟩ = some (.string ⟨#[]⟩) := cell_later hb (by go_simp)
      have f0 : w1.frozen? ⟨w.heap.size, 0, none⟩ = false := (hb.frozen _ _ (by simp [World.drew])).trans (by go_simp)
      have f1 : w1.frozen? ⟨w.heap.size, 1, none⟩ = false := (hb.frozen _ _ (by simp [World.drew])).trans (by go_simp)
      have f2 : w1.frozen? ⟨w.heap.size, 2, none⟩ = false := (hb.frozen _ _ (by simp [World.drew])).trans (by go_simp)
      replace HB0 := Lib.hid (HB0.out.trans hb)
      clear hb
      by_cases hl : (s.extract 1 s.size).size < 8
      · have HR2 := Lib.hid (HR.out.trans (if_pos (by rw [HLEN.out]; exact hl)))
        have hv : numV 4 (s.extract 1 s.size) = .tuple #[.int .i64 0, .string ⟨#[]⟩, .bool false] := if_pos hl
        rw [hv]
        clear hv HR
        go_wp2_with (fail)
        exact bodyPost_ret (v := .tuple #[.agg #[.int .i64 4, .int .i64 0, .string ⟨#[]⟩], .string ⟨#[]⟩, .bool false]) (by simp [results, Tryd.results33, go_sem, q0, q1, q2]) rfl
          ⟨⟨4, 0, ⟨#[]⟩⟩, [], false, rfl, by first | exact HB0.out | exact HB0.out.setCell (Nat.le_refl _) _ | exact (((HB0.out.setCell (Nat.le_refl _) _).setCell (Nat.le_refl _) _).setCell (Nat.le_refl _) _).setCell (Nat.le_refl _) _, by decide, fun h => (by cases h), fun _ => HR2.out⟩
      · obtain ⟨N, hN⟩ : ∃ N : Int, ((sumL ((s.extract 1 s.size).data.toList.take 8) : Nat) : Int) - ((biasK 4 : Nat) : Int) = N := ⟨_, rfl⟩
        obtain ⟨R, hR⟩ : ∃ R : List UInt8, (s.extract 1 s.size).data.toList.drop 8 = R := ⟨_, rfl⟩
        have hr2 : readL s.data.toList = if rightB 4 (((sumL ((s.data.toList.drop 1).take 8) : Nat) : Int) - ((biasK 4 : Nat) : Int)) [] = true then some (⟨4, ((sumL ((s.data.toList.drop 1).take 8) : Nat) : Int) - ((biasK 4 : Nat) : Int), ⟨#[]⟩⟩, (s.data.toList.drop 1).drop 8) else none := HR.out.trans (if_neg (by rw [HLEN.out]; exact hl))
        have hv : numV 4 (s.extract 1 s.size) = .tuple #[.int .i64 N, .string ⟨R.toArray⟩, .bool true] := by rw [← hN, ← hR]; exact if_neg hl
        rw [hv]
        rw [hd1.out] at hN hR
        rw [hN, hR] at hr2
        have HR2 := Lib.hid hr2
        clear hv HR hr2 hN hR
        go_wp2_with (fail)
        exact bodyPost_ret (v := .tuple #[.agg #[.int .i64 4, .int .i64 N, .string ⟨#[]⟩], .string ⟨R.toArray⟩, .bool true]) (by simp [results, Tryd.results33, go_sem, q0, q1, q2]) rfl
          ⟨⟨4, N, ⟨#[]⟩⟩, R, true, rfl, by first | exact (((HB0.out.setCell (Nat.le_refl _) _).setCell (Nat.le_refl _) _).setCell (Nat.le_refl _) _).setCell (Nat.le_refl _) _ | exact HB0.out.setCell (Nat.le_refl _) _, Nat.zero_le _, fun _ hr => HR2.out.trans (if_pos hr), fun h => HR2.out.trans (if_neg (not_right _ h))⟩
  by_cases hk5 : k = 5 ∨ k = 6
  · have hcall := text_any (s.extract 1 s.size) ((w.alloc (.cells #[.int .i64 k, .int .i64 0, .string ⟨#[]⟩] 23)).drew) (by omega)
    rw [hd1.out] at hcall
    have hrn := fun ht => read_textN s[0] (s.data.toList.drop 1) (by rw [HK.out]; exact hk5) ht
    have hrs := fun t rest ht => read_textS s[0] (s.data.toList.drop 1) t rest (by rw [HK.out]; exact hk5) ht
    rw [← HL.out, HK.out] at hrs
    rw [← HL.out] at hrn
    have HRN := Lib.hid hrn; clear hrn
    have HRS := Lib.hid hrs; clear hrs
    obtain ⟨o, ho⟩ : ∃ o, textR (s.data.toList.drop 1) = o := ⟨_, rfl⟩
    rw [ho] at hcall
    have HO := Lib.hid ho; clear ho
    have HCALL := Lib.hid hcall
    clear hcall
    obtain rfl | rfl := hk5
    · have HC : Calls Tryd.prog 39 #[.string (s.extract 1 s.size)] _ fun e w' => e = .returned (textV o) ∧ Bel _ w' := HCALL.out
      clear HCALL
      go_wp2_with (fail)
      refine HC.mono ?_
      rintro e w1 ⟨rfl, hb⟩
      clear HC
      have hlt1 : w.heap.size < w1.heap.size := by have := hb.size; simp [World.drew] at this; omega
      have q0 : w1.cell? ⟨w.heap.size, 0, none⟩ = some (.int .i64 5) := cell_later hb (by go_simp)
      have q1 : w1.cell? ⟨w.heap.size, 1, none⟩ = some (.int .i64 0) := cell_later hb (by go_simp)
      have q2 : w1.cell? ⟨w.heap.size, 2, none⟩ = some (.string ⟨#[]⟩) := cell_later hb (by go_simp)
      have f0 : w1.frozen? ⟨w.heap.size, 0, none⟩ = false := (hb.frozen _ _ (by simp [World.drew])).trans (by go_simp)
      have f1 : w1.frozen? ⟨w.heap.size, 1, none⟩ = false := (hb.frozen _ _ (by simp [World.drew])).trans (by go_simp)
      have f2 : w1.frozen? ⟨w.heap.size, 2, none⟩ = false := (hb.frozen _ _ (by simp [World.drew])).trans (by go_simp)
      replace HB0 := Lib.hid (HB0.out.trans hb)
      clear hb
      cases o with
      | none =>
        have HR2 := Lib.hid (HRN.out HO.out)
        have hv : textV none = .tuple #[.string ⟨#[]⟩, .string ⟨#[]⟩, .bool false] := rfl
        rw [hv]
        clear hv
        go_wp2_with (fail)
        exact bodyPost_ret (v := .tuple #[.agg #[.int .i64 5, .int .i64 0, .string ⟨#[]⟩], .string ⟨#[]⟩, .bool false]) (by simp [results, Tryd.results33, go_sem, q0, q1, q2]) rfl
          ⟨⟨5, 0, ⟨#[]⟩⟩, [], false, rfl, by first | exact HB0.out | exact HB0.out.setCell (Nat.le_refl _) _ | exact (((HB0.out.setCell (Nat.le_refl _) _).setCell (Nat.le_refl _) _).setCell (Nat.le_refl _) _).setCell (Nat.le_refl _) _, Nat.zero_le _, fun h => (by cases h), fun _ => HR2.out⟩
      | some p =>
        obtain ⟨t, R⟩ := p
        have HR2 := Lib.hid (HRS.out t R HO.out)
        have htl := Lib.hid (textR_len HO.out)
        have hv : textV (some (t, R)) = .tuple #[.string ⟨t.toArray⟩, .string ⟨R.toArray⟩, .bool true] := rfl
        rw [hv]
        clear hv
        go_wp2_with (fail)
        exact bodyPost_ret (v := .tuple #[.agg #[.int .i64 5, .int .i64 0, .string ⟨t.toArray⟩], .string ⟨R.toArray⟩, .bool true]) (by simp [results, Tryd.results33, go_sem, q0, q1, q2]) rfl
          ⟨⟨5, 0, ⟨t.toArray⟩⟩, R, true, rfl, by first | exact (((HB0.out.setCell (Nat.le_refl _) _).setCell (Nat.le_refl _) _).setCell (Nat.le_refl _) _).setCell (Nat.le_refl _) _ | exact HB0.out.setCell (Nat.le_refl _) _, by have := htl.out; show t.toArray.size ≤ _; rw [List.size_toArray]; unfold maxLen; omega, fun _ hr => HR2.out.trans (if_pos hr), fun h => HR2.out.trans (if_neg (not_right _ h))⟩
    · have HC : Calls Tryd.prog 39 #[.string (s.extract 1 s.size)] _ fun e w' => e = .returned (textV o) ∧ Bel _ w' := HCALL.out
      clear HCALL
      go_wp2_with (fail)
      refine HC.mono ?_
      rintro e w1 ⟨rfl, hb⟩
      clear HC
      have hlt1 : w.heap.size < w1.heap.size := by have := hb.size; simp [World.drew] at this; omega
      have q0 : w1.cell? ⟨w.heap.size, 0, none⟩ = some (.int .i64 6) := cell_later hb (by go_simp)
      have q1 : w1.cell? ⟨w.heap.size, 1, none⟩ = some (.int .i64 0) := cell_later hb (by go_simp)
      have q2 : w1.cell? ⟨w.heap.size, 2, none⟩ = some (.string ⟨#[]⟩) := cell_later hb (by go_simp)
      have f0 : w1.frozen? ⟨w.heap.size, 0, none⟩ = false := (hb.frozen _ _ (by simp [World.drew])).trans (by go_simp)
      have f1 : w1.frozen? ⟨w.heap.size, 1, none⟩ = false := (hb.frozen _ _ (by simp [World.drew])).trans (by go_simp)
      have f2 : w1.frozen? ⟨w.heap.size, 2, none⟩ = false := (hb.frozen _ _ (by simp [World.drew])).trans (by go_simp)
      replace HB0 := Lib.hid (HB0.out.trans hb)
      clear hb
      cases o with
      | none =>
        have HR2 := Lib.hid (HRN.out HO.out)
        have hv : textV none = .tuple #[.string ⟨#[]⟩, .string ⟨#[]⟩, .bool false] := rfl
        rw [hv]
        clear hv
        go_wp2_with (fail)
        exact bodyPost_ret (v := .tuple #[.agg #[.int .i64 6, .int .i64 0, .string ⟨#[]⟩], .string ⟨#[]⟩, .bool false]) (by simp [results, Tryd.results33, go_sem, q0, q1, q2]) rfl
          ⟨⟨6, 0, ⟨#[]⟩⟩, [], false, rfl, by first | exact HB0.out | exact HB0.out.setCell (Nat.le_refl _) _ | exact (((HB0.out.setCell (Nat.le_refl _) _).setCell (Nat.le_refl _) _).setCell (Nat.le_refl _) _).setCell (Nat.le_refl _) _, Nat.zero_le _, fun h => (by cases h), fun _ => HR2.out⟩
      | some p =>
        obtain ⟨t, R⟩ := p
        have HR2 := Lib.hid (HRS.out t R HO.out)
        have htl := Lib.hid (textR_len HO.out)
        have hv : textV (some (t, R)) = .tuple #[.string ⟨t.toArray⟩, .string ⟨R.toArray⟩, .bool true] := rfl
        rw [hv]
        clear hv
        go_wp2_with (fail)
        exact bodyPost_ret (v := .tuple #[.agg #[.int .i64 6, .int .i64 0, .string ⟨t.toArray⟩], .string ⟨R.toArray⟩, .bool true]) (by simp [results, Tryd.results33, go_sem, q0, q1, q2]) rfl
          ⟨⟨6, 0, ⟨t.toArray⟩⟩, R, true, rfl, by first | exact (((HB0.out.setCell (Nat.le_refl _) _).setCell (Nat.le_refl _) _).setCell (Nat.le_refl _) _).setCell (Nat.le_refl _) _ | exact HB0.out.setCell (Nat.le_refl _) _, by have := htl.out; show t.toArray.size ≤ _; rw [List.size_toArray]; unfold maxLen; omega, fun _ hr => HR2.out.trans (if_pos hr), fun h => HR2.out.trans (if_neg (not_right _ h))⟩
  · have n1 : ¬ (k : Int) = 1 := by omega
    have n2 : ¬ (k : Int) = 2 := by omega
    have n3 : ¬ (k : Int) = 3 := by omega
    have n4 : ¬ (k : Int) = 4 := by omega
    have n5 : ¬ (k : Int) = 5 := by omega
    have n6 : ¬ (k : Int) = 6 := by omega
    have HR := Lib.hid (show readL s.data.toList = none by rw [HL.out]; exact read_kind _ _ (by rw [HK.out]; omega))
    go_wp2_with (fail)
    exact bodyPost_ret (v := .tuple #[.agg #[.int .i64 k, .int .i64 0, .string ⟨#[]⟩], .string ⟨#[]⟩, .bool false]) (by simp [results, Tryd.results33, go_sem]) rfl
      ⟨⟨k, 0, ⟨#[]⟩⟩, [], false, rfl, HB0.out, Nat.zero_le _, fun h => (by cases h), fun _ => HR.out⟩
end Go.Proofs.YtggmeggfibblhaaDoor
