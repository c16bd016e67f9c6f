/- SchemaFinds: true for every argument. -/
import Derived.Test.YtbalkchphijehaaDoorP12
import Derived.Test.YtbalkchphijehaaDoorP10
set_option linter.unusedSimpArgs false
set_option linter.unusedVariables false
set_option maxRecDepth 20000
namespace Go.Proofs.YtbalkchphijehaaDoor
open Go.RowKit Go.Deep


theorem any_take14 {F : List FV} {n : List UInt8} {k : Nat} (h : k < F.length) : (F.take (k + 1)).any (fun f => decide (f.t = n)) = ((F.take k).any (fun f => decide (f.t = n)) || decide (F[k].t = n)) := by
  rw [take_succ14 h, List.any_append]; simp
theorem find_any14 (F : List FV) (n : List UInt8) : (findN F n = none ∧ F.any (fun f => decide (f.t = n)) = false) ∨ ∃ f, findN F n = some f ∧ F.any (fun f => decide (f.t = n)) = true := by
  cases h : findN F n with
  | none =>
    left
    refine ⟨rfl, ?_⟩
    rw [List.any_eq_false]
    intro f hf
    unfold findN at h
    rw [List.find?_eq_none] at h
    exact h f hf
  | some f =>
    right
    refine ⟨f, rfl, ?_⟩
    rw [List.any_eq_true]
    exact ⟨f, List.mem_of_find?_eq_some h, by have := List.find?_some h; exact this⟩
set_option maxHeartbeats 32000000 in
theorem finds14_law (ver next : Int) (p : Option Addr) (c : Nat) (F : List FV) (name : ByteArray) (w : World) (h : FldsAt w p F) (hF : F.length ≤ maxLen) (hc : F.length ≤ c) (hV : allF F) (hstd : Std w) (hn : name.size ≤ maxLen) :
    Calls Tryd.prog 8 #[.agg #[.int .i64 ver, .int .i64 next, .slice p F.length c], .string name] w fun e w' => e = .returned (.bool true) ∧ Bel w w' := by
  unfold maxLen at *
  have H := Lib.hid h
  have HV := Lib.hid hV
  have HST := Lib.hid hstd
  have HFM := Lib.hid hF; have HFC := Lib.hid hc
  clear h hV hstd
  obtain ⟨X, hX⟩ : ∃ X, X = w.heap.size := ⟨_, rfl⟩
  obtain ⟨w1, hw1⟩ : ∃ z, z = w.alloc (.cells #[.int .i64 ver, .int .i64 next, .slice p F.length c] 24) := ⟨_, rfl⟩
  have HB1 := Lib.hid (show Bel w w1 by rw [hw1]; exact (Bel.refl w).alloc _)
  have HK1 := Lib.hid (show w1.heap[X]? = some (.cells #[.int .i64 ver, .int .i64 next, .slice p F.length c] 24 (0, 0)) by rw [hw1, hX]; exact heap_alloc_new w _)
  have HRS := Lib.hid (show ∀ z, Bel w1 z → (z.cell? ⟨X, 0, none⟩ = some (.int .i64 ver) ∧ z.cell? ⟨X, 1, none⟩ = some (.int .i64 next) ∧ z.cell? ⟨X, 2, none⟩ = some (.slice p F.length c)) from fun z hz => (qbox3 (qbel HK1.out hz)).1)
  go_enter Tryd.func8, Tryd.ntmps8
  go_wp2_with (fail)
  rw [← hw1, ← hX]
  clear hw1 hX
  refine (shown14_any _ (HST.out.bel HB1.out)).mono ?_
  rintro e w2 ⟨rfl, hb⟩
  have HB2 := Lib.hid (show Bel w1 w2 from hb)
  clear hb
  obtain ⟨s0, s1, s2⟩ := HRS.out _ HB2.out
  go_wp2_with (fail)
  clear s0 s1 s2
  refine (small14_any ver next p c F none 0 [] _ (H.out.bel (HB1.out.trans HB2.out)) (by unfold maxLen; exact HFM.out) (fun i hi => by simp at hi) (by unfold maxLen; simp)).mono ?_
  intro e w3 hsm
  obtain ⟨b, rfl, hbs, hb⟩ := hsm
  have HB3 := Lib.hid (HB2.out.trans hb)
  have HSM := Lib.hid hbs
  clear hb hbs
  cases b with
  | false =>
    go_wp2_with (fail)
    go_ret
    exact ⟨rfl, HB1.out.trans HB3.out⟩
  | true =>
    have HSML := Lib.hid (HSM.out rfl)
    by_cases hl : name.size ≤ 100
    · have hl' : ¬ (100 : Int) < (name.size : Int) := by omega
      clear hl
      obtain ⟨s0, s1, s2⟩ := HRS.out _ HB3.out
      go_wp2_with (fail)
      clear s0 s1 s2
      refine (pright14_any ver next p c F _ (H.out.bel (HB1.out.trans HB3.out)) (by unfold maxLen; exact HFM.out) HFC.out HV.out).mono ?_
      rintro e w4 ⟨rfl, hb⟩
      have HB4 := Lib.hid (HB3.out.trans hb)
      clear hb
      cases hrs : rightS ⟨ver, next, F⟩ with
      | false =>
        clear hrs
        go_wp2_with (fail)
        go_ret
        exact ⟨rfl, HB1.out.trans HB4.out⟩
      | true =>
        have HP := Lib.hid (rightS_parts hrs)
        clear hrs
        go_wp2_with (fail)
        go_loopw [7, 8] (fun tv i x => ∃ k : Nat, i = .int .i64 k ∧ k ≤ F.length ∧ tv = .bool ((F.take k).any (fun f => decide (f.t = name.data.toList))) ∧ Bel w1 x) (fun _ i _ => F.length - (intOf i).toNat)
        case atStart => exact ⟨0, rfl, Nat.zero_le _, rfl, HB4.out⟩
        case round =>
          obtain ⟨k, rfl, hk, rfl, hw⟩ := hrel
          have HW := Lib.hid hw
          clear hw
          obtain ⟨s0, s1, s2⟩ := HRS.out _ HW.out
          by_cases hlt : k < F.length
          · have hii : (k : Int) < (F.length : Int) := by omega
            obtain ⟨a, B, O, sp, rfl, ha, d0, d1, d2, d3, d4, d5⟩ := (H.out.bel (HB1.out.trans HW.out)) k hlt
            have HFN := Lib.hid (find_name HP.out.1 hlt)
            have HFI := Lib.hid (find_id HP.out.1 hlt)
            have HAN := Lib.hid (any_take14 (n := name.data.toList) hlt)
            have HFP := Lib.hid (field_parts (fieldsB_mem HP.out.1 _ (List.getElem_mem hlt)))
            have HNZ := Lib.hid (HV.out.at_ hlt).2.1
            obtain ⟨f, hf⟩ : ∃ f, f = F[k] := ⟨_, rfl⟩
            rw [← hf] at d0 d1 d2 d3 d4 d5 HFN HFI HAN HFP HNZ
            clear hf
            obtain ⟨th, hth⟩ : ∃ b, b = (F.take k).any (fun f => decide (f.t = name.data.toList)) := ⟨_, rfl⟩
            rw [← hth] at HAN ⊢
            clear hth
            have hal : Bel wr (wr.alloc (.cells #[.int .i64 f.id, .int .i64 f.kind, .string f.name, .int .i64 f.d.k, .int .i64 f.d.n, .string f.d.s] 31)) := (Bel.refl _).alloc _
            have HB5 := Lib.hid (HW.out.trans hal)
            have HKF := Lib.hid (heap_alloc_new wr (.cells #[.int .i64 f.id, .int .i64 f.kind, .string f.name, .int .i64 f.d.k, .int .i64 f.d.n, .string f.d.s] 31))
            have HF5 := Lib.hid (H.out.bel (HB1.out.trans HB5.out))
            clear hal
            obtain ⟨u0, u1, u2⟩ := HRS.out _ HB5.out
            go_wp2_with (fail)
            clear u0 u1 u2
            refine (pfind14_any ver next (some a) c F f.name _ HF5.out (by unfold maxLen; exact HFM.out)).mono ?_
            rintro e w6 ⟨rfl, hb⟩
            rw [show findN F f.name.data.toList = some f from HFN.out]
            unfold findV14
            simp only
            have HB7 := Lib.hid (show Bel w1 (w6.alloc (.cells #[.int .i64 f.id, .int .i64 f.kind, .string f.name, .int .i64 f.d.k, .int .i64 f.d.n, .string f.d.s] 31)) from (HB5.out.trans hb).alloc _)
            have HKF7 := Lib.hid (qbel HKF.out (hb.alloc (.cells #[.int .i64 f.id, .int .i64 f.kind, .string f.name, .int .i64 f.d.k, .int .i64 f.d.n, .string f.d.s] 31)))
            have HKA := Lib.hid (heap_alloc_new w6 (.cells #[.int .i64 f.id, .int .i64 f.kind, .string f.name, .int .i64 f.d.k, .int .i64 f.d.n, .string f.d.s] 31))
            clear hb
            obtain ⟨u0, u1, u2⟩ := HRS.out _ HB7.out
            obtain ⟨⟨c0, c1, c2, c3, c4, c5⟩, -⟩ := qbox6 HKF7.out
            go_wp2_with (fail)
            clear u0 u1 u2 c0 c1 c2 c3 c4 c5
            refine (pbyid14_any ver next (some a) c F f.id _ (H.out.bel (HB1.out.trans HB7.out)) (by unfold maxLen; exact HFM.out)).mono ?_
            rintro e w8 ⟨rfl, hb⟩
            rw [HFI.out]
            unfold byidV14
            simp only
            have hal2 := hb.alloc (.cells #[.int .i64 f.id, .int .i64 f.kind, .string f.name, .int .i64 f.d.k, .int .i64 f.d.n, .string f.d.s] 31)
            have HB9 := Lib.hid (show Bel w1 (w8.alloc (.cells #[.int .i64 f.id, .int .i64 f.kind, .string f.name, .int .i64 f.d.k, .int .i64 f.d.n, .string f.d.s] 31)) from HB7.out.trans hal2)
            obtain ⟨⟨c0, c1, c2, c3, c4, c5⟩, -⟩ := qbox6 (qbel HKF7.out hal2)
            obtain ⟨⟨a0, a1, a2, a3, a4, a5⟩, -⟩ := qbox6 (qbel HKA.out hal2)
            obtain ⟨⟨b0, b1, b2, b3, b4, b5⟩, -⟩ := qbox6 (heap_alloc_new w8 (.cells #[.int .i64 f.id, .int .i64 f.kind, .string f.name, .int .i64 f.d.k, .int .i64 f.d.n, .string f.d.s] 31))
            clear hb hal2 s0 s1 s2 d0 d1 d2 d3 d4 d5
            cases th with
            | true =>
              go_wp2_with (fail)
              refine (pname14_any f.name _ HNZ.out).mono ?_
              rintro e w10 ⟨rfl, hd⟩
              rw [show nameL f.name.data.toList = true from HFP.out.2.2.1]
              have HB10 := Lib.hid (HB9.out.trans hd.bel)
              clear hd c0 c1 c2 c3 c4 c5 a0 a1 a2 a3 a4 a5 b0 b1 b2 b3 b4 b5
              go_wp2_with (fail)
              go_roundw
              case rel => exact ⟨k + 1, by go_num, hlt, by rw [HAN.out]; rfl, HB10.out⟩
              case measure => simp [intOf]; omega
            | false =>
              by_cases he : f.name = name
              · have heq : (f.name.toList == name.toList) = true := by rw [he]; exact beq_self_eq_true _
                have HDE := Lib.hid (decide_eq_true (show f.t = name.data.toList by unfold FV.t; rw [he]))
                clear he
                go_wp2_with (fail)
                refine (pname14_any f.name _ HNZ.out).mono ?_
                rintro e w10 ⟨rfl, hd⟩
                rw [show nameL f.name.data.toList = true from HFP.out.2.2.1]
                have HB10 := Lib.hid (HB9.out.trans hd.bel)
                clear hd c0 c1 c2 c3 c4 c5 a0 a1 a2 a3 a4 a5 b0 b1 b2 b3 b4 b5
                go_wp2_with (fail)
                go_roundw
                case rel => exact ⟨k + 1, by go_num, hlt, by rw [HAN.out, HDE.out]; rfl, HB10.out⟩
                case measure => simp [intOf]; omega
              · have heq : (f.name.toList == name.toList) = false := by rw [beq_eq_false_iff_ne]; intro h; exact he (by rw [ByteArray.toList_eq, ByteArray.toList_eq] at h; apply ByteArray.ext; exact Array.toList_inj.1 h)
                have HDE := Lib.hid (decide_eq_false (show ¬ f.t = name.data.toList from fun h => he (by apply ByteArray.ext; exact Array.toList_inj.1 h)))
                clear he
                go_wp2_with (fail)
                refine (pname14_any f.name _ HNZ.out).mono ?_
                rintro e w10 ⟨rfl, hd⟩
                rw [show nameL f.name.data.toList = true from HFP.out.2.2.1]
                have HB10 := Lib.hid (HB9.out.trans hd.bel)
                clear hd c0 c1 c2 c3 c4 c5 a0 a1 a2 a3 a4 a5 b0 b1 b2 b3 b4 b5
                go_wp2_with (fail)
                go_roundw
                case rel => exact ⟨k + 1, by go_num, hlt, by rw [HAN.out, HDE.out]; rfl, HB10.out⟩
                case measure => simp [intOf]; omega
          · obtain rfl : k = F.length := by omega
            have hii : ¬ (F.length : Int) < (F.length : Int) := by omega
            rw [List.take_length]
            obtain ⟨th, hth⟩ : ∃ b, b = F.any (fun f => decide (f.t = name.data.toList)) := ⟨_, rfl⟩
            have HTH := Lib.hid hth
            rw [← hth]
            clear hth
            go_wp2_with (fail)
            clear s0 s1 s2
            refine (pfind14_any ver next p c F name _ (H.out.bel (HB1.out.trans HW.out)) (by unfold maxLen; exact HFM.out)).mono ?_
            rintro e w6 ⟨rfl, hb⟩
            obtain ⟨i, ki, nn, di, dn, ds, hfv⟩ : ∃ (i k : Int) (n : ByteArray) (d e : Int) (t : ByteArray), findV14 (findN F name.data.toList) = .tuple #[.agg #[.int .i64 i, .int .i64 k, .string n, .int .i64 d, .int .i64 e, .string t], .bool th] := by
              rcases find_any14 F name.data.toList with ⟨h1, h2⟩ | ⟨f, h1, h2⟩
              · rw [h1, HTH.out, h2]; exact ⟨_, _, _, _, _, _, rfl⟩
              · rw [h1, HTH.out, h2]; exact ⟨_, _, _, _, _, _, rfl⟩
            rw [hfv]
            have HB7 := Lib.hid (show Bel w1 (w6.alloc (.cells #[.int .i64 i, .int .i64 ki, .string nn, .int .i64 di, .int .i64 dn, .string ds] 31)) from (HW.out.trans hb).alloc _)
            clear hb hfv
            obtain ⟨s0, s1, s2⟩ := HRS.out _ HB7.out
            go_wp2_with (fail)
            clear s0 s1 s2
            refine (pbyid14_any ver next p c F next _ (H.out.bel (HB1.out.trans HB7.out)) (by unfold maxLen; exact HFM.out)).mono ?_
            rintro e w8 ⟨rfl, hb⟩
            rw [find_next HP.out.1]
            unfold byidV14
            simp only
            have HB9 := Lib.hid (HB7.out.trans hb)
            clear hb
            cases th with
            | true =>
              go_wp2_with (fail)
              go_ret
              exact ⟨rfl, HB1.out.trans (HB9.out.alloc _)⟩
            | false =>
              go_wp2_with (fail)
              go_ret
              exact ⟨rfl, HB1.out.trans (HB9.out.alloc _)⟩
    · have hl' : (100 : Int) < (name.size : Int) := by omega
      clear hl
      go_wp2_with (fail)
      go_ret
      exact ⟨rfl, HB1.out.trans HB3.out⟩
end Go.Proofs.YtbalkchphijehaaDoor
