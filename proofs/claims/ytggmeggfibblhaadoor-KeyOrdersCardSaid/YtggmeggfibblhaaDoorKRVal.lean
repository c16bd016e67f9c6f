/- moultref4.value: some bytes read as a value, as far as they can be. -/
import Derived.Test.YtggmeggfibblhaaDoorKRTake
import Derived.Laws.Bits64
set_option linter.unusedSimpArgs false
set_option linter.unusedVariables false
namespace Go.Proofs.YtggmeggfibblhaaDoor
open Go.RowKit Go.Deep

theorem xor_nat (m : Nat) (h : m < 2 ^ 64) : m ^^^ 2 ^ 63 = (m + 2 ^ 63) % 2 ^ 64 := by
  have h1 : (m ^^^ 2 ^ 63) / 2 ^ 63 = (m / 2 ^ 63) ^^^ 1 := by rw [Nat.xor_div_two_pow, Nat.div_self (by decide)]
  have h2 : (m ^^^ 2 ^ 63) % 2 ^ 63 = m % 2 ^ 63 := by rw [Nat.xor_mod_two_pow, Nat.mod_self]; simp
  have h3 : m / 2 ^ 63 = 0 ∨ m / 2 ^ 63 = 1 := by omega
  rcases h3 with h3 | h3
  · rw [h3, Nat.zero_xor] at h1; omega
  · rw [h3, Nat.xor_self] at h1; omega
theorem xor_top (m : Nat) (h : m < 18446744073709551616) : bits .xor .u64 (m : Int) 9223372036854775808 = (((m + 9223372036854775808) % 18446744073709551616 : Nat) : Int) := by
  have e := bits_xor_u64_nat m 9223372036854775808 h (by decide)
  have e3 : m ^^^ 9223372036854775808 = (m + 9223372036854775808) % 18446744073709551616 := xor_nat m h
  rw [e3] at e
  exact e
theorem top_wrap (m : Nat) (h : m < 18446744073709551616) : wrap64 (((m + 9223372036854775808) % 18446744073709551616 : Nat) : Int) = (m : Int) - 9223372036854775808 := by
  unfold wrap64; omega

theorem wid_cases (k d : Nat) (h : widK k = d) : d = 0 ∨ (d = 1 ∧ biasK k = 0) ∨ (d = 2 ∧ biasK k = 32768) ∨ (d = 4 ∧ biasK k = 2147483648) ∨ (d = 8 ∧ biasK k = 9223372036854775808) := by
  unfold widK at h
  unfold biasK
  by_cases h1 : (k : Int) = 1
  · simp [h1] at h ⊢; omega
  by_cases h2 : (k : Int) = 2
  · simp [h2] at h ⊢; omega
  by_cases h3 : (k : Int) = 3
  · simp [h3] at h ⊢; omega
  by_cases h4 : (k : Int) = 4
  · simp [h4] at h ⊢; omega
  · simp [h1, h2, h3, h4] at h ⊢; omega

/-- What value answers. -/
def valueV (s : ByteArray) (k0 d : Nat) : Value := if d = 0 then .agg #[.int .i64 k0, .int .i64 0, .string ⟨(lenL 1 ((s.data.toList.drop 1).take (s.size - 3))).toArray⟩] else .agg #[.int .i64 k0, .int .i64 ((sumL (s.data.toList.drop 1) : Int) - biasK k0), .string ⟨#[]⟩]
/-- The loop: so many bytes are read. -/
def ValRel (s : ByteArray) (k0 : Nat) (body : List UInt8) (w : World) (u v i : Value) (x : World) : Prop :=
  ∃ (k : Nat) (acc : List UInt8) (p : UInt8), k + 1 ≤ s.size ∧ i = .int .i64 (k + 1 : Nat) ∧ u = .int .u64 ((sumL ((s.data.toList.drop 1).take k) % 18446744073709551616 : Nat) : Int) ∧
    acc.length ≤ k ∧ Own (w.heap.size + 1 + 1) x v acc ∧ acc ++ lenL p (body.drop k) = lenL 1 body ∧ (k = 0 → p = 1) ∧ (∀ h : k < s.size, 1 ≤ k → p = s[k]) ∧
    Bel ((w.alloc (.cells #[.int .i64 0, .int .i64 0, .string ⟨#[]⟩] 23)).alloc (.cells #[.int .i64 k0, .int .i64 0, .string ⟨#[]⟩] 23)) x
theorem len_step_in (p b : UInt8) (l : List UInt8) (h : ¬ (b = 255 ∧ p = 0)) : lenL p (b :: l) = b :: lenL b l := by rw [lenL, if_neg h]
theorem len_step_out (p b : UInt8) (l : List UInt8) (h : b = 255 ∧ p = 0) : lenL p (b :: l) = lenL b l := by rw [lenL, if_pos h]
theorem sum_take (s : ByteArray) (k : Nat) (h : k + 1 < s.size) : sumL ((s.data.toList.drop 1).take (k + 1)) = sumL ((s.data.toList.drop 1).take k) * 256 + s[k + 1].toNat := by
  rw [← sumL_snoc, List.take_add_one]
  have e : (s.data.toList.drop 1)[k]? = some s[k + 1] := by
    rw [List.getElem?_drop, show 1 + k = k + 1 by omega, List.getElem?_eq_getElem (by simpa using h)]; rfl
  rw [e]; rfl
theorem body_drop (s : ByteArray) (k : Nat) (h : k + 1 < s.size - 2) : ((s.data.toList.drop 1).take (s.size - 3)).drop k = s[k + 1]'(by omega) :: ((s.data.toList.drop 1).take (s.size - 3)).drop (k + 1) := by
  have hsl : s.data.toList.length = s.size := rfl
  rw [List.drop_eq_getElem_cons (by simp; omega)]
  congr 1
  rw [List.getElem_take, List.getElem_drop]
  have e : 1 + k = k + 1 := by omega
  simp only [e]; rfl
theorem body_end (s : ByteArray) (k : Nat) (h : ¬ k + 1 < s.size - 2) : ((s.data.toList.drop 1).take (s.size - 3)).drop k = [] := by
  apply List.drop_eq_nil_of_le
  rw [List.length_take]; omega

theorem u_step (m b : Nat) : IntKind.u64.wrap (IntKind.u64.wrap ((m : Int) % 18446744073709551616 * 256) + (b : Int)) = (((m * 256 + b) % 18446744073709551616 : Nat) : Int) := by
  rw [wrap_u64, wrap_u64]; omega
theorem u_step8 (m : Nat) (b : UInt8) : IntKind.u64.wrap (IntKind.u64.wrap ((m : Int) % 18446744073709551616 * 256) + IntKind.u64.wrap (b.toNat : Int)) = (((m * 256 + b.toNat) % 18446744073709551616 : Nat) : Int) := by
  rw [wrap_u64, wrap_u64, wrap_u64]; omega
theorem bel_two {w x y : World} {a b : Obj} (h : Bel ((w.alloc a).alloc b) x) (k : Below (w.heap.size + 1 + 1) x y) : Bel ((w.alloc a).alloc b) y := by
  have e : ((w.alloc a).alloc b).heap.size = w.heap.size + 1 + 1 := by simp
  exact h.trans_below (by rw [e]; exact k)

set_option maxHeartbeats 4000000 in
theorem value_any (s : ByteArray) (k0 d : Nat) (w : World) (h0 : 0 < s.size) (hs : s.size ≤ 1000000) (hk : s[0].toNat = k0) (hd : widK k0 = d) (hw : d = 0 ∨ s.size = 1 + d) :
    Calls Tryd.prog 35 #[.string s] w fun e w' => e = .returned (valueV s k0 d) ∧ Bel w w' := by
  have hsl : s.data.toList.length = s.size := rfl
  have hkb := s[0].toNat_lt
  have hw64 : wrap64 (s[0].toNat : Int) = k0 := by unfold wrap64; omega
  have HK := Lib.hid hk
  have HW := Lib.hid hw; clear hw
  have HD := Lib.hid (wid_cases k0 d hd)
  obtain ⟨body, hbody⟩ : ∃ body, (s.data.toList.drop 1).take (s.size - 3) = body := ⟨_, rfl⟩
  have HBD := Lib.hid fun (k : Nat) (h : k + 1 < s.size - 2) => body_drop s k h
  have HBE := Lib.hid fun (k : Nat) (h : ¬ k + 1 < s.size - 2) => body_end s k h
  rw [hbody] at HBD HBE
  have HBody := Lib.hid hbody; clear hbody
  clear hkb hk
  go_enter Tryd.func35, Tryd.ntmps35
  go_wp2_with (fail)
  refine (width_any k0 _).mono ?_
  rintro e w1 ⟨rfl, rfl⟩
  rw [hd]
  clear hw64
  go_wp2_with (fail)
  go_loopw [5, 6, 7] (fun u v i x => ValRel s k0 body w u v i x) (fun _ _ i _ => s.size - (intOf i).toNat)
  case atStart => exact ⟨0, [], 1, by omega, rfl, rfl, Nat.le_refl _, Own.nil _ _, rfl, fun _ => rfl, fun _ h => by omega, Bel.refl _⟩
  case round =>
    obtain ⟨k, acc, p, hk1, rfl, rfl, hak, hown, hl, hp0, hpk, hb⟩ := hrel
    have HV := Lib.hid hown; clear hown
    have HB := Lib.hid hb; clear hb
    have HL := Lib.hid hl; clear hl
    have HP0 := Lib.hid hp0; clear hp0
    have HPK := Lib.hid hpk; clear hpk
    by_cases hlt : k + 1 < s.size
    · have i1 : (k : Int) + 1 < (s.size : Int) := by omega
      have HS := Lib.hid (sum_take s k hlt)
      obtain ⟨m, hm⟩ : ∃ m, sumL ((s.data.toList.drop 1).take k) = m := ⟨_, rfl⟩
      rw [hm] at HS
      rw [hm]
      clear hm
      have hB2 : w.heap.size + 1 + 1 ≤ wr.heap.size := by have := HB.out.size; simp at this; omega
      have hu := u_step m s[k + 1].toNat
      by_cases hin : k + 1 < s.size - 2
      · have i2 : (k : Int) + 1 < (s.size : Int) - 2 := by omega
        by_cases h255 : s[k + 1] = 255
        · have h255' : s[k + 1].toNat = 255 := by rw [h255]; rfl
          have HU := Lib.hid (show Value.int .u64 (IntKind.u64.wrap (IntKind.u64.wrap ((m : Int) % 18446744073709551616 * 256) + 255)) = .int .u64 (((m * 256 + s[k + 1].toNat) % 18446744073709551616 : Nat) : Int) by rw [← hu, h255']; rfl)
          clear hu
          by_cases hk2 : k = 0
          · have HL2 := Lib.hid (show acc ++ ([s[k + 1]] ++ lenL s[k + 1] (body.drop (k + 1))) = lenL 1 body by
              rw [← HL.out, HBD.out k hin, len_step_in p _ _ (by rw [HP0.out hk2]; simp)]; rfl)
            have i3 : (k : Int) + 1 < 2 := by omega
            clear hk2
            go_wp2_with (at_builtin; refine stop_here ?_)
            refine go_on ?_
            refine append_lit rfl _ _ rfl (w.heap.size + 1 + 1) _ _ rfl HV.out _ _ _ [s[k + 1]] rfl rfl (by rw [h255]; rfl) (by simp; omega) hB2 (Or.inl rfl) ?_
            intro v1 w1 hown1 hbel1 hz1
            have HV1 := Lib.hid hown1
            have HB1 := Lib.hid (bel_two HB.out hbel1)
            clear hown1 hbel1 HV
            go_wp2_with (fail)
            go_roundw
            case rel => exact ⟨k + 1, acc ++ [s[k + 1]], s[k + 1], by omega, by go_num, by rw [HS.out]; exact HU.out, by simp; omega, HV1.out, by rw [List.append_assoc]; exact HL2.out, fun h => by omega, fun _ _ => rfl, HB1.out⟩
            case measure => simp [intOf]; omega
          · have i3 : ¬ (k : Int) + 1 < 2 := by omega
            have hpk := HPK.out (by omega) (by omega)
            by_cases hz : s[k] = 0
            · have hz' : s[k].toNat = 0 := by rw [hz]; rfl
              have HL2 := Lib.hid (show acc ++ lenL s[k + 1] (body.drop (k + 1)) = lenL 1 body by
                rw [← HL.out, HBD.out k hin, len_step_out p _ _ ⟨h255, by rw [hpk, hz]⟩])
              go_wp2_with (fail)
              go_roundw
              case rel => exact ⟨k + 1, acc, s[k + 1], by omega, by go_num, by rw [HS.out]; exact HU.out, by omega, HV.out, HL2.out, fun h => by omega, fun _ _ => rfl, HB.out⟩
              case measure => simp [intOf]; omega
            · have hz' : ¬ s[k].toNat = 0 := fun h => hz (UInt8.toNat_inj.1 h)
              have HL2 := Lib.hid (show acc ++ ([s[k + 1]] ++ lenL s[k + 1] (body.drop (k + 1))) = lenL 1 body by
                rw [← HL.out, HBD.out k hin, len_step_in p _ _ (by rw [hpk]; exact fun h => hz h.2)]; rfl)
              go_wp2_with (at_builtin; refine stop_here ?_)
              refine go_on ?_
              refine append_lit rfl _ _ rfl (w.heap.size + 1 + 1) _ _ rfl HV.out _ _ _ [s[k + 1]] rfl rfl (by rw [h255]; rfl) (by simp; omega) hB2 (Or.inl rfl) ?_
              intro v1 w1 hown1 hbel1 hz1
              have HV1 := Lib.hid hown1
              have HB1 := Lib.hid (bel_two HB.out hbel1)
              clear hown1 hbel1 HV
              go_wp2_with (fail)
              go_roundw
              case rel => exact ⟨k + 1, acc ++ [s[k + 1]], s[k + 1], by omega, by go_num, by rw [HS.out]; exact HU.out, by simp; omega, HV1.out, by rw [List.append_assoc]; exact HL2.out, fun h => by omega, fun _ _ => rfl, HB1.out⟩
              case measure => simp [intOf]; omega
        · have h255' : ¬ s[k + 1].toNat = 255 := fun h => h255 (UInt8.toNat_inj.1 h)
          have HU := Lib.hid (congrArg (Value.int .u64) (u_step8 m s[k + 1]))
          clear hu
          have HL2 := Lib.hid (show acc ++ ([s[k + 1]] ++ lenL s[k + 1] (body.drop (k + 1))) = lenL 1 body by
            rw [← HL.out, HBD.out k hin, len_step_in p _ _ (fun h => h255 h.1)]; rfl)
          go_wp2_with (at_builtin; refine stop_here ?_)
          refine go_on ?_
          refine append_lit rfl _ _ rfl (w.heap.size + 1 + 1) _ _ rfl HV.out _ _ _ [s[k + 1]] rfl rfl rfl (by simp; omega) hB2 (Or.inl rfl) ?_
          intro v1 w1 hown1 hbel1 hz1
          have HV1 := Lib.hid hown1
          have HB1 := Lib.hid (bel_two HB.out hbel1)
          clear hown1 hbel1 HV
          go_wp2_with (fail)
          go_roundw
          case rel => exact ⟨k + 1, acc ++ [s[k + 1]], s[k + 1], by omega, by go_num, by rw [HS.out]; exact HU.out, by simp; omega, HV1.out, by rw [List.append_assoc]; exact HL2.out, fun h => by omega, fun _ _ => rfl, HB1.out⟩
          case measure => simp [intOf]; omega
      · have i2 : ¬ (k : Int) + 1 < (s.size : Int) - 2 := by omega
        have HU := Lib.hid (congrArg (Value.int .u64) (u_step8 m s[k + 1]))
        clear hu
        have HL2 := Lib.hid (show acc ++ lenL s[k + 1] (body.drop (k + 1)) = lenL 1 body by
          rw [← HL.out, HBE.out k hin, HBE.out (k + 1) (by omega)]; rfl)
        go_wp2_with (fail)
        go_roundw
        case rel => exact ⟨k + 1, acc, s[k + 1], by omega, by go_num, by rw [HS.out]; exact HU.out, by omega, HV.out, HL2.out, fun h => by omega, fun _ _ => rfl, HB.out⟩
        case measure => simp [intOf]; omega
    · have hks : s.size = k + 1 := by omega
      have hL := HL.out
      rw [HBE.out k (by omega)] at hL
      have HL2 := Lib.hid (show acc = lenL 1 body by rw [← hL]; simp [lenL])
      clear hL
      have HT := Lib.hid (show (s.data.toList.drop 1).take k = s.data.toList.drop 1 from List.take_of_length_le (by rw [List.length_drop]; omega))
      rw [HT.out]
      have i1 : ¬ (k : Int) + 1 < (s.size : Int) := by omega
      have q0 : wr.cell? ⟨w.heap.size, 0, none⟩ = some (.int .i64 0) := cell_later HB.out (by go_simp)
      have q1 : wr.cell? ⟨w.heap.size, 1, none⟩ = some (.int .i64 0) := cell_later HB.out (by go_simp)
      have q2 : wr.cell? ⟨w.heap.size, 2, none⟩ = some (.string ⟨#[]⟩) := cell_later HB.out (by go_simp)
      have f0 : wr.frozen? ⟨w.heap.size, 0, none⟩ = false := (HB.out.frozen _ _ (by simp; omega)).trans (by go_simp)
      have f1 : wr.frozen? ⟨w.heap.size, 1, none⟩ = false := (HB.out.frozen _ _ (by simp; omega)).trans (by go_simp)
      have f2 : wr.frozen? ⟨w.heap.size, 2, none⟩ = false := (HB.out.frozen _ _ (by simp; omega)).trans (by go_simp)
      have r0 : wr.cell? ⟨w.heap.size + 1, 0, none⟩ = some (.int .i64 k0) := cell_later HB.out (by go_simp)
      have r1 : wr.cell? ⟨w.heap.size + 1, 1, none⟩ = some (.int .i64 0) := cell_later HB.out (by go_simp)
      have r2 : wr.cell? ⟨w.heap.size + 1, 2, none⟩ = some (.string ⟨#[]⟩) := cell_later HB.out (by go_simp)
      have g0 : wr.frozen? ⟨w.heap.size + 1, 0, none⟩ = false := (HB.out.frozen _ _ (by simp)).trans (by go_simp)
      have g1 : wr.frozen? ⟨w.heap.size + 1, 1, none⟩ = false := (HB.out.frozen _ _ (by simp)).trans (by go_simp)
      have g2 : wr.frozen? ⟨w.heap.size + 1, 2, none⟩ = false := (HB.out.frozen _ _ (by simp)).trans (by go_simp)
      have hBw := Lib.hid (((Bel.refl w).alloc _).alloc _ |>.trans HB.out)
      have hlt1 : w.heap.size < wr.heap.size := by have := HB.out.size; simp at this; omega
      have hlt2 : w.heap.size + 1 < wr.heap.size := by have := HB.out.size; simp at this; omega
      have hml : sumL (s.data.toList.drop 1) < 256 ^ k := by
        have := sumL_lt (s.data.toList.drop 1)
        rw [List.length_drop, hsl, hks, Nat.add_sub_cancel] at this
        exact this
      obtain ⟨M, hM⟩ : ∃ M, sumL (s.data.toList.drop 1) = M := ⟨_, rfl⟩
      have HM := Lib.hid hM
      rw [hM] at hml ⊢
      clear hM
      rcases HD.out with h0 | ⟨h0, hb⟩ | ⟨h0, hb⟩ | ⟨h0, hb⟩ | ⟨h0, hb⟩
      · subst h0
        have HR := Lib.hid (show valueV s k0 0 = .agg #[.int .i64 k0, .int .i64 0, .string ⟨acc.toArray⟩] by unfold valueV; rw [if_pos rfl, HBody.out, HL2.out])
        have hcv := own_string HV.out
        go_wp2_with (fail)
        exact bodyPost_ret (v := .agg #[.int .i64 k0, .int .i64 0, .string ⟨acc.toArray⟩]) (by simp [results, Tryd.results35, go_sem, q0, q1, q2, hlt1, hlt2]) rfl ⟨by rw [HR.out], by first | exact (((hBw.out.setCell (Nat.le_succ _) _).setCell (Nat.le_refl _) _).setCell (Nat.le_refl _) _).setCell (Nat.le_refl _) _ | exact hBw.out.setCell (Nat.le_refl _) _⟩
      · subst h0
        have hk : k = 1 := by rcases HW.out with h | h <;> omega
        have hm2 : M < 256 := by rw [hk] at hml; exact hml
        have HR := Lib.hid (show valueV s k0 1 = .agg #[.int .i64 k0, .int .i64 ((M : Int) - 0), .string ⟨#[]⟩] by unfold valueV; rw [if_neg (by decide), HM.out, hb]; rfl)
        have hmod : M % 18446744073709551616 = M := Nat.mod_eq_of_lt (by omega)
        rw [hmod]
        have hww : wrap64 (M : Int) = M := by unfold wrap64; omega
        clear hmod hk hml hb
        go_wp2_with (fail)
        exact bodyPost_ret (v := .agg #[.int .i64 k0, .int .i64 ((M : Int) - 0), .string ⟨#[]⟩]) (by simp [results, Tryd.results35, go_sem, q0, q1, q2, hlt1, hlt2]) rfl ⟨by rw [HR.out], by first | exact (((hBw.out.setCell (Nat.le_succ _) _).setCell (Nat.le_refl _) _).setCell (Nat.le_refl _) _).setCell (Nat.le_refl _) _ | exact hBw.out.setCell (Nat.le_refl _) _⟩
      · subst h0
        have hk : k = 2 := by rcases HW.out with h | h <;> omega
        have hm2 : M < 65536 := by rw [hk] at hml; exact hml
        have HR := Lib.hid (show valueV s k0 2 = .agg #[.int .i64 k0, .int .i64 ((M : Int) - 32768), .string ⟨#[]⟩] by unfold valueV; rw [if_neg (by decide), HM.out, hb]; rfl)
        have hmod : M % 18446744073709551616 = M := Nat.mod_eq_of_lt (by omega)
        rw [hmod]
        have hww : wrap64 (M : Int) = M := by unfold wrap64; omega
        clear hmod hk hml hb
        go_wp2_with (fail)
        exact bodyPost_ret (v := .agg #[.int .i64 k0, .int .i64 ((M : Int) - 32768), .string ⟨#[]⟩]) (by simp [results, Tryd.results35, go_sem, q0, q1, q2, hlt1, hlt2]) rfl ⟨by rw [HR.out], by first | exact (((hBw.out.setCell (Nat.le_succ _) _).setCell (Nat.le_refl _) _).setCell (Nat.le_refl _) _).setCell (Nat.le_refl _) _ | exact hBw.out.setCell (Nat.le_refl _) _⟩
      · subst h0
        have hk : k = 4 := by rcases HW.out with h | h <;> omega
        have hm2 : M < 4294967296 := by rw [hk] at hml; exact hml
        have HR := Lib.hid (show valueV s k0 4 = .agg #[.int .i64 k0, .int .i64 ((M : Int) - 2147483648), .string ⟨#[]⟩] by unfold valueV; rw [if_neg (by decide), HM.out, hb]; rfl)
        have hmod : M % 18446744073709551616 = M := Nat.mod_eq_of_lt (by omega)
        rw [hmod]
        have hww : wrap64 (M : Int) = M := by unfold wrap64; omega
        clear hmod hk hml hb
        go_wp2_with (fail)
        exact bodyPost_ret (v := .agg #[.int .i64 k0, .int .i64 ((M : Int) - 2147483648), .string ⟨#[]⟩]) (by simp [results, Tryd.results35, go_sem, q0, q1, q2, hlt1, hlt2]) rfl ⟨by rw [HR.out], by first | exact (((hBw.out.setCell (Nat.le_succ _) _).setCell (Nat.le_refl _) _).setCell (Nat.le_refl _) _).setCell (Nat.le_refl _) _ | exact hBw.out.setCell (Nat.le_refl _) _⟩
      · subst h0
        have hk : k = 8 := by rcases HW.out with h | h <;> omega
        have hm2 : M < 18446744073709551616 := by rw [hk] at hml; exact hml
        have HR := Lib.hid (show valueV s k0 8 = .agg #[.int .i64 k0, .int .i64 ((M : Int) - 9223372036854775808), .string ⟨#[]⟩] by unfold valueV; rw [if_neg (by decide), HM.out, hb]; rfl)
        have hmod : M % 18446744073709551616 = M := Nat.mod_eq_of_lt (by omega)
        rw [hmod]
        have hx := xor_top M hm2
        obtain ⟨X, hX⟩ : ∃ X : Nat, (M + 9223372036854775808) % 18446744073709551616 = X := ⟨_, rfl⟩
        have hww : wrap64 (X : Int) = (M : Int) - 9223372036854775808 := by rw [← hX]; exact top_wrap M hm2
        rw [hX] at hx
        clear hmod hk hml hb hX
        go_wp2_with (fail)
        exact bodyPost_ret (v := .agg #[.int .i64 k0, .int .i64 ((M : Int) - 9223372036854775808), .string ⟨#[]⟩]) (by simp [results, Tryd.results35, go_sem, q0, q1, q2, hlt1, hlt2]) rfl ⟨by rw [HR.out], by first | exact (((hBw.out.setCell (Nat.le_succ _) _).setCell (Nat.le_refl _) _).setCell (Nat.le_refl _) _).setCell (Nat.le_refl _) _ | exact hBw.out.setCell (Nat.le_refl _) _⟩
end Go.Proofs.YtggmeggfibblhaaDoor
