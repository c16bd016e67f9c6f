/- moultlaw7.JournalPlays. -/
import Derived.Test.YtlmlcnbgdaiaeaaGreatDoorP25
set_option linter.unusedSimpArgs false
set_option linter.unusedVariables false
namespace Go.Proofs.YtlmlcnbgdaiaeaaGreatDoor
open Go.RowKit Go.Deep Go.Maps

theorem jact_at {w₀ x : World} {p : Option Addr} {L : List JV} (h : JActs w₀ p L) (hb : Bel w₀ x) {k : Nat} (hk : k < L.length) : ∃ a B O sp, p = some a ∧ a.add (k * 5) = ⟨B, O, sp⟩ ∧
    x.cell? ⟨B, O, sp⟩ = some (.int .i64 L[k].op) ∧ x.cell? ⟨B, O + 1, none⟩ = some (.int .i64 L[k].n) ∧ x.cell? ⟨B, O + 2, none⟩ = some (.slice L[k].bp L[k].bl.length L[k].bc) ∧ x.cell? ⟨B, O + 3, none⟩ = some (.slice L[k].left.p L[k].left.L.length L[k].left.cap) ∧
    x.cell? ⟨B, O + 4, none⟩ = some (.slice L[k].spoil.p L[k].spoil.L.length L[k].spoil.cap) ∧ JV.ok w₀ L[k] := by
  obtain ⟨B, O, sp, hp, c0, c1, c2, c3, c4, hok⟩ := jact_cells (h.bel hb) hk
  obtain ⟨-, -, -, -, -, -, -, -, -, ho⟩ := jact_cells h hk
  cases p with
  | none => cases hp
  | some a =>
    simp only [Option.map_some, Option.some.injEq] at hp
    exact ⟨a, B, O, sp, rfl, hp, c0, c1, c2, c3, c4, ho⟩
theorem jsmall_get {L : List JV} (h : jsmallB L = true) {k : Nat} (hk : k < L.length) : JV.small L[k] = true := by
  unfold jsmallB at h
  simp only [Bool.and_eq_true] at h
  exact List.all_eq_true.1 h.2 _ (List.getElem_mem hk)
theorem jsmall_len {L : List JV} (h : jsmallB L = true) : L.length ≤ 60 := by
  unfold jsmallB at h
  simp only [Bool.and_eq_true, decide_eq_true_eq] at h
  exact h.1
theorem last_bg (room : Int) : lastN logP (bgM room).L = 1 := last1 _ _
def JplRel (w : World) (ws ms b r : Nat) (most : Int) (n : Nat) (i : Value) (x : World) : Prop :=
  ∃ (k : Nat) (M : RS) (jb rb : Nat), i = .int .i64 k ∧ k ≤ n ∧ LW w x ws ms b r jb rb M M logB most [] ∧ lastN logB.data.toList M.L ≠ 0 ∧ lastN logB.data.toList M.L ≤ k + 1 ∧ M.room ≤ 1000000
set_option maxHeartbeats 8000000 in
set_option maxRecDepth 20000 in
theorem law_plays7_any (w : World) (room most : Int) (p : Option Addr) (cap : Nat) (L : List JV) (hstd : Std w) (h : JActs w p L) (hL : L.length ≤ maxLen) (hroom : -9223372036854775808 ≤ room ∧ room ≤ 9223372036854775807) (hmost : -9223372036854775808 ≤ most ∧ most ≤ 9223372036854775807) :
    Calls Tryz.prog 3 #[.int .i64 room, .int .i64 most, .slice p L.length cap] w fun e w' => e = .returned (.bool true) ∧ Bel w w' := by
  have HS := Lib.hid hstd
  have H := Lib.hid h
  have HL := Lib.hid hL
  have HRO := Lib.hid (show in64 room from hroom)
  have HMO := Lib.hid (show in64 most from hmost)
  clear hstd h hL
  cases hsm : jsmallB L with
  | false =>
    have HSM := Lib.hid hsm; clear hsm
    go_enter Tryz.func3, Tryz.ntmps3
    go_wp2_with (fail)
    refine (jshown_any w HS.out).mono ?_
    rintro e w1 ⟨rfl, hb1⟩
    have HB1 := Lib.hid hb1; clear hb1
    go_wp2_with (fail)
    refine (jsmall_any w1 p cap L (H.out.bel HB1.out) HL.out).mono ?_
    rintro e w2 ⟨rfl, hd2⟩
    rw [HSM.out]
    have HB2 := Lib.hid (HB1.out.trans hd2.bel); clear hd2
    go_wp2_with (fail)
    go_ret
    exact ⟨rfl, HB2.out⟩
  | true =>
  have HSM := Lib.hid hsm
  have hl60 := jsmall_len hsm
  clear hsm
  have HPK := Lib.hid (pickN_lt room (n := 60000) (by omega))
  go_enter Tryz.func3, Tryz.ntmps3
  go_wp2_with (fail)
  refine (jshown_any w HS.out).mono ?_
  rintro e w1 ⟨rfl, hb1⟩
  have HB1 := Lib.hid hb1; clear hb1
  go_wp2_with (fail)
  refine (jsmall_any w1 p cap L (H.out.bel HB1.out) HL.out).mono ?_
  rintro e w2 ⟨rfl, hd2⟩
  rw [HSM.out]
  have HB2 := Lib.hid (HB1.out.trans hd2.bel); clear hd2
  go_wp2_with (fail)
  refine (jpick_at _ _ 60000 _ HRO.out (by omega) (by omega) rfl).mono ?_
  rintro e z ⟨rfl, rfl⟩
  go_wp2_with (fail)
  refine (jbegin_any w _ HS.out HB2.out ((pickN room 60000 : Nat) : Int) most ⟨by omega, by have := HPK.out; omega⟩).mono ?_
  rintro e w3 ⟨ws, ms, b, r, jb, rb, rfl, h3⟩
  have H3 := Lib.hid h3
  clear h3
  go_wp2_with (fail)
  go_loopw [12] (fun i x => JplRel w ws ms b r most L.length i x) (fun i _ => L.length - (intOf i).toNat)
  case atStart => exact ⟨0, _, jb, rb, rfl, Nat.zero_le _, H3.out, by rw [logB_list, last_bg]; omega, by rw [logB_list, last_bg]; omega, by show ((pickN room 60000 : Nat) : Int) ≤ 1000000; have := HPK.out; omega⟩
  case round =>
    obtain ⟨k, M, jb, rb, rfl, hk, hx, hl0, hl1, hrm⟩ := hrel
    have HX := Lib.hid hx
    have HL0 := Lib.hid hl0
    have HL1 := Lib.hid hl1
    have HRM := Lib.hid hrm
    clear hx hl0 hl1 hrm H3
    by_cases hlt : k < L.length
    · obtain ⟨a, B, O, sp, rfl, hp, c0, c1, c2, c3, c4, hok⟩ := jact_at H.out HX.out.low hlt
      have HA := Lib.hid (fun x (hx : Bel w x) => jact_at H.out hx hlt)
      have HSG := Lib.hid (jsmall_get HSM.out hlt)
      obtain ⟨y, hy⟩ : ∃ y, y = L[k] := ⟨_, rfl⟩
      rw [← hy] at c0 c1 c2 c3 c4 hok HA HSG
      have HOK := Lib.hid hok
      have HP := Lib.hid hp
      obtain ⟨err, LL, M1, hdo⟩ : ∃ err LL M1, doJ logB.data.toList most y M = (err, LL, M1) := ⟨_, _, _, rfl⟩
      have HDO := Lib.hid hdo
      have hinv := doj_last (p := logB.data.toList) (most := most) (a := y) HX.out.tw.good HL0.out (by have := HL1.out; omega) (by rw [logB_list]; decide)
      have hlens := doj_lens logB.data.toList most y HX.out.tw.good HRM.out
      have heach := doj_each logB.data.toList most y M
      have hroom1 := doj_room logB.data.toList most y M
      rw [hdo] at hinv hlens heach hroom1
      have HIV := Lib.hid hinv
      have HLE := Lib.hid hlens
      have HEA := Lib.hid heach
      have HRM1 := Lib.hid (show M1.room ≤ 1000000 by have := HRM.out; rw [show M1.room = M.room from hroom1]; exact this)
      have hee : (err != err) = false := by simp
      have hee2 : (err == err) = true := by simp
      have HNR := Lib.hid (show ws ∉ ([] : List Nat) ∧ ms ∉ ([] : List Nat) by simp)
      have HD1 := Lib.hid (jdoes_any w _ ws ms b r jb rb M M logB most [] y HNR.out HX.out rfl HMO.out HOK.out HSG.out HL0.out (by have := HL1.out; omega) HRM.out)
      clear hy hok hdo hinv hlens heach hroom1
      unfold jactV SI.val at *
      rw [HDO.out] at HD1
      go_wp2_with (fail)
      refine HD1.out.mono ?_
      rintro e w4 ⟨q, qc, S, jb2, rfl, h4, -, hrow, hS⟩
      have H4 := Lib.hid h4
      have HRW := Lib.hid hrow
      have HNS := Lib.hid (show ws ∉ S ++ [] ∧ ms ∉ S ++ [] by
        have hlt := HX.out.tw.lt
        have h1 := hlt ws (by simp)
        have h2 := hlt ms (by simp)
        refine ⟨fun hm => ?_, fun hm => ?_⟩
        · have := hS ws (by simpa using hm); omega
        · have := hS ms (by simpa using hm); omega)
      clear h4 hrow hS c0 c1 c2 c3 c4 HD1
      obtain ⟨a', B', O', sp', ha', hp', c0, c1, c2, c3, c4, -⟩ := HA.out _ H4.out.low
      obtain rfl : a = a' := by simpa using ha'
      rw [hp, Addr.mk.injEq] at hp'
      obtain ⟨rfl, rfl, rfl⟩ := hp'
      clear ha'
      have HD2 := Lib.hid (jmodel_any w w4 ws ms b r jb2 rb M1 M logB most (S ++ []) y HNS.out H4.out rfl HMO.out HOK.out HSG.out HL0.out (by have := HL1.out; omega) HRM.out)
      unfold jactV SI.val at *
      rw [HDO.out] at HD2
      go_wp2_with (fail)
      refine HD2.out.mono ?_
      rintro e w5 ⟨q2, qc2, S2, rb2, rfl, h5, hk5, hrow, -⟩
      have H5 := Lib.hid h5
      have HRW2 := Lib.hid hrow
      have HRW1 := Lib.hid (HRW.out.keep (fun k hk => hk5 k (by simp [hk])))
      clear h5 hk5 hrow c0 c1 c2 c3 c4 HD2
      go_wp2_with (fail)
      refine (jalike_any w w5 ws ms b r jb2 rb2 M1 logB most _ H5.out (by decide)).mono ?_
      rintro e w6 ⟨rfl, hb6⟩
      have HB6 := Lib.hid hb6
      clear hb6
      have HCA := Lib.hid (fun (z : World) (hz : Bel w5 z) => (jall_any z _ _ q q2 qc qc2 LL LL (HRW1.out.bel hz) (HRW2.out.bel hz) HLE.out HLE.out HEA.out HEA.out).mono (fun e y (hq : e = .returned (.bool (decide (LL = LL))) ∧ Bel z y) => (show e = .returned (.bool true) ∧ Bel z y from ⟨hq.1.trans (by rw [decide_eq_true rfl]), hq.2⟩)))
      go_wp2_with (fail)
      refine (HCA.out _ HB6.out).mono ?_
      rintro e w7 ⟨rfl, hb7⟩
      have HB7 := Lib.hid (HB6.out.trans hb7)
      clear hb7
      go_wp2_with (fail)
      go_roundw
      case rel => exact ⟨k + 1, M1, jb2, rb2, by go_num, by omega, (H5.out.bel HB7.out).less (fun k hk => by cases hk), HIV.out.1, by have h1 : lastN logB.data.toList M1.L ≤ lastN logB.data.toList M.L + 1 := HIV.out.2; have h2 := HL1.out; omega, HRM1.out⟩
      case measure => simp [intOf]; omega
    · obtain rfl : k = L.length := by omega
      go_wp2_with (fail)
      go_ret
      exact ⟨rfl, HX.out.low⟩
end Go.Proofs.YtlmlcnbgdaiaeaaGreatDoor
