/- TPPay, TPBuild, TPEnts, laid together. -/
import Derived.Test.YteimllgoelleeaaGreatDoorZ11
import Derived.Test.YteimllgoelleeaaGreatDoorZ19
import Derived.Test.YteimllgoelleeaaGreatDoorZ22
import Derived.Test.YteimllgoelleeaaGreatDoorZ18
import Derived.Test.YteimllgoelleeaaGreatDoorZ7
import Derived.Test.YteimllgoelleeaaGreatDoorZ13
import Derived.Test.YteimllgoelleeaaGreatDoorZ9
import Derived.Test.YteimllgoelleeaaGreatDoorZ4
set_option linter.unusedSimpArgs false
set_option linter.unusedVariables false
/- table.payloads. -/
namespace Go.Proofs.YteimllgoelleeaaGreatDoor
open Go.RowKit Go.Deep

def payL (L : List EB) : List (List UInt8) := blocksL L ++ [buildF (keysL L), footL L]
def payT (L : List EB) : List (List UInt8) × Int :=
  if L = [] ∨ standB L = false then ([], 1) else if 500 < L.length then ([], 11) else if rowsErr (rowsOf L) ≠ 0 then ([], rowsErr (rowsOf L)) else (payL L, 0)
theorem pay_arg {L : List EB} (h : L = [] ∨ standB L = false) : payT L = ([], 1) := if_pos h
theorem pay_many {L : List EB} (h : L ≠ []) (hs : standB L = true) (hl : 500 < L.length) : payT L = ([], 11) := by
  unfold payT; rw [if_neg (by rw [hs]; simp [h]), if_pos hl]
theorem pay_err {L : List EB} (h : L ≠ []) (hs : standB L = true) (hl : L.length ≤ 500) (he : rowsErr (rowsOf L) ≠ 0) : payT L = ([], rowsErr (rowsOf L)) := by
  unfold payT; rw [if_neg (by rw [hs]; simp [h]), if_neg (by omega), if_pos he]
theorem pay_ok {L : List EB} (h : L ≠ []) (hs : standB L = true) (hl : L.length ≤ 500) (he : rowsErr (rowsOf L) = 0) : payT L = (payL L, 0) := by
  unfold payT; rw [if_neg (by rw [hs]; simp [h]), if_neg (by omega), if_neg (by rw [he]; simp)]
theorem stand_all {L : List EB} (h : L.all rightB = false) : standB L = false := by
  cases hs : standB L with
  | false => rfl
  | true =>
    have : L.all rightB = true := List.all_eq_true.2 (stand_right hs)
    rw [h] at this; cases this
def PayPost (L : List EB) (w : World) (e : Ending) (w' : World) : Prop := ∃ v, e = .returned (.tuple #[v, .int .i64 (payT L).2]) ∧ OwnG strEl w.heap.size w' v (payT L).1 ∧ Bel w w'
theorem pay_bad {L : List EB} {x : Int} {w w' : World} (h : payT L = ([], x)) (hb : Bel w w') : PayPost L w (.returned (.tuple #[.slice none 0 0, .int .i64 x])) w' := by
  refine ⟨.slice none 0 0, by rw [h], ?_, hb⟩
  rw [h]; exact OwnG.nil _ _ _
theorem str_lit2 (s t : ByteArray) : (#[Value.string s, Value.string t] : Array Value).toList = strEl.all [s.data.toList, t.data.toList] := by
  have e : (⟨s.data.toList.toArray⟩ : ByteArray) = s := by cases s; simp
  have e2 : (⟨t.data.toList.toArray⟩ : ByteArray) = t := by cases t; simp
  simp only [El.all, strEl, List.flatMap_cons, List.flatMap_nil, List.append_nil, e, e2]
  rfl
theorem blk_map (R : List (List PB)) (k : Nat) (h : k < R.length) (r : List PB) (hr : r = R[k]) : (R.take (k + 1)).map blkB = (R.take k).map blkB ++ [blkB r] := by
  rw [List.take_add_one, List.getElem?_eq_getElem h, Option.toList_some, List.map_append, hr]
  rfl
theorem split_n (p : Option Addr) (n cap : Nat) (L : List PB) (most : Int) (w : World) (hn : n = L.length) (h : PairsAt w p L) (hL : L.length ≤ 1000) (hs : smallP 100000 L) :
    Calls Tryz.prog 47 #[.slice p n cap, .int .i64 most] w fun e w' => ∃ q c, e = .returned (.slice q (splitB most L []).length c) ∧ RwAt w' q (splitB most L []) ∧ Bel w w' := by
  subst hn; exact split_at p cap L most w h hL hs
set_option maxHeartbeats 4000000 in
set_option maxRecDepth 20000 in
theorem pay_any (p : Option Addr) (cap : Nat) (L : List EB) (w : World) (h : EntsAt w p L) (hL : L.length ≤ 1000) (hf : fitsL L) (hs : sizesL 100000 L) :
    Calls Tryz.prog 25 #[.slice p L.length cap] w fun e w' => PayPost L w e w' := by
  have H := Lib.hid h; clear h
  have HF := Lib.hid hf; clear hf
  have HS := Lib.hid hs; clear hs
  by_cases h0 : L = []
  · subst h0
    have HV := Lib.hid (pay_arg (Or.inl (rfl : ([] : List EB) = [])))
    go_enter Tryz.func25, Tryz.ntmps25
    go_wp2_with (fail)
    go_ret2
    exact pay_bad HV.out (Bel.refl w)
  have hl0 : L.length ≠ 0 := fun e => h0 (List.length_eq_zero_iff.1 e)
  have hl0' : ((L.length : Int) == 0) = false := by rw [beq_eq_false_iff_ne]; omega
  have HNE := Lib.hid h0
  clear h0 hl0
  go_enter Tryz.func25, Tryz.ntmps25
  go_wp2_with (fail)
  refine (areright_any p cap L w H.out (by omega) HF.out (fun e he => by have := (HS.out e he).2; omega)).mono ?_
  rintro r w1 ⟨rfl, hb⟩
  have HB1 := Lib.hid hb; clear hb
  cases har : L.all rightB with
  | false =>
    have HV := Lib.hid (pay_arg (Or.inr (stand_all har)))
    clear har
    go_wp2_with (fail)
    go_ret2
    exact pay_bad HV.out HB1.out
  | true =>
    have HAR := Lib.hid (List.all_eq_true.1 har)
    clear har
    go_wp2_with (fail)
    refine (areord_any p cap L w1 (H.out.bel HB1.out) (by omega) HNE.out HAR.out).mono ?_
    rintro r w2 ⟨rfl, hb⟩
    have HB2 := Lib.hid (HB1.out.trans hb); clear hb
    cases hst : standB L with
    | false =>
      have HV := Lib.hid (pay_arg (Or.inr hst))
      clear hst
      go_wp2_with (fail)
      go_ret2
      exact pay_bad HV.out HB2.out
    | true =>
      have HST := Lib.hid hst; clear hst
      by_cases h500 : L.length ≤ 500
      · have h500' : ¬ (500 : Int) < (L.length : Int) := by omega
        go_wp2_with (fail)
        refine (pairs_any p cap L w2 (H.out.bel HB2.out) (by omega) HAR.out).mono ?_
        rintro r w3 ⟨b3, rfl, hp3, hb⟩
        have HB3 := Lib.hid (HB2.out.trans hb); clear hb
        have hml : L.length = (L.map pairB).length := (List.length_map ..).symm
        have HP3 := Lib.hid hp3; clear hp3
        obtain ⟨PL, hPL⟩ : ∃ PL, L.map pairB = PL := ⟨_, rfl⟩
        obtain ⟨ro1, ro2, ro3⟩ := rows_ok HST.out h500
        have hsp : smallP 100000 PL := fun i hi => by
          have hm : PL[i] ∈ L.map pairB := by rw [hPL]; exact List.getElem_mem hi
          obtain ⟨e, he, hee⟩ := List.mem_map.1 hm
          rw [← hee]; exact pairB_small (HAR.out e he)
        rw [hPL] at HP3 hml ro1 ro2 ro3
        have HSP := Lib.hid hsp
        have HRO1 := Lib.hid ro1; have HRO3 := Lib.hid ro3
        have HML := Lib.hid hml
        clear hPL hsp ro1 ro3 hml
        go_wp2_with (fail)
        refine (split_n (some ⟨b3, 0, none⟩) L.length L.length PL 600 w3 HML.out HP3.out (by rw [← HML.out]; omega) HSP.out).mono ?_
        rintro r w4 ⟨q4, c4, rfl, hrw, hb⟩
        have HB4 := Lib.hid (HB3.out.trans hb); clear hb
        have HRW := Lib.hid hrw; clear hrw
        obtain ⟨R, hR⟩ : ∃ R, splitB 600 PL [] = R := ⟨_, rfl⟩
        rw [hR] at HRO1 HRO3 ro2 HRW ⊢
        clear hR
        go_wp2_with (fail)
        go_loopw [4, 29] (fun ov iv x => ∃ k : Nat, k ≤ R.length ∧ iv = .int .i64 k ∧ OwnG strEl w4.heap.size x ov ((R.take k).map blkB) ∧ (∀ y ∈ R.take k, (buildL (prs y)).2 = 0) ∧ Bel w4 x) (fun _ iv _ => R.length - (intOf iv).toNat)
        case atStart => exact ⟨0, Nat.zero_le _, rfl, OwnG.nil _ _ _, fun y hy => by simp at hy, Bel.refl w4⟩
        case round =>
          obtain ⟨k, hk, rfl, hown, hall, hbx⟩ := hrel
          have HBX := Lib.hid hbx
          have HALL := Lib.hid hall
          obtain ⟨op, ocap, rfl⟩ := ownG_len hown
          clear hall
          by_cases hlt : k < R.length
          · obtain ⟨a1, q1, c1, r1, rfl, hr1, hc1, hp1⟩ := (HRW.out.bel hbx).get hlt
            have hm1 : r1 ∈ R := by rw [hr1]; exact List.getElem_mem hlt
            obtain ⟨g1, g2, g3⟩ := HRO3.out r1 hm1
            have HBT := Lib.hid (blk_map R k hlt r1 hr1)
            have HOT := Lib.hid (fun h0 => ok_take R k hlt r1 hr1 h0 HALL.out)
            have HET := Lib.hid (fun h0 => err_row HRO1.out k hlt r1 hr1 h0 HALL.out)
            have HP1 := Lib.hid hp1
            have hol : ((R.take k).map blkB).length ≤ k := by rw [List.length_map]; exact List.length_take_le _ _
            obtain ⟨OL, hOL⟩ : ∃ OL, (R.take k).map blkB = OL := ⟨_, rfl⟩
            rw [hOL] at hown hol HBT ⊢
            have HO := Lib.hid hown
            have HG1 := Lib.hid g1
            have HG2 := Lib.hid g2
            have hki : (k : Int) < (R.length : Int) := by omega
            clear hown hp1 hbx hr1 hm1 hOL g1 g2
            go_wp2_with (fail)
            refine (build_any q1 c1 r1 wr HP1.out HG1.out HG2.out).mono ?_
            unfold BuildPost
            rcases build_err2 g3 with h0 | h10
            · rw [h0]
              obtain ⟨bs, hbs⟩ : ∃ bs : ByteArray, bs = ⟨(buildL (prs r1)).1.toArray⟩ := ⟨_, rfl⟩
              have HBD := Lib.hid (show bs.data.toList = blkB r1 by rw [hbs]; rfl)
              rw [← hbs]
              have HOT2 := Lib.hid (HOT.out h0)
              rintro r w5 ⟨rfl, hb⟩
              have HB5 := Lib.hid (HBX.out.trans hb)
              have HO5 := Lib.hid (HO.out.bel hb)
              have hz5 : w4.heap.size ≤ w5.heap.size := HB5.out.size
              clear hb hbs h0 HOT HET
              have HQ := Lib.hid (str_lit bs)
              go_wp2_with (at_builtin; refine stop_here ?_)
              refine go_on ?_
              refine append_all strOk rfl _ _ rfl rfl (HO5.out.alloc _) [bs.data.toList] rfl (src_at [bs.data.toList] (heap_alloc_new w5 _) HQ.out rfl) (by simp only [List.length_singleton]; unfold maxLen; omega) (by simp only [List.length_singleton]; omega) (by rw [World.size_alloc]; omega) ?_
              intro v6 w6 ho6 hk6 hv6
              have HB6 := Lib.hid (show Bel w4 w6 from (HB5.out.alloc _).trans_below (hk6.own (by rw [World.size_alloc]; omega) (fun kk hkk => (HO5.out.lt kk hkk).1)))
              rw [HBD.out, ← HBT.out] at ho6
              have HO6 := Lib.hid ho6
              clear ho6 hk6 hv6
              go_wp2_with (fail)
              go_roundw
              case rel => exact ⟨k + 1, hlt, by go_num, HO6.out, HOT2.out, HB6.out⟩
              case measure => simp [intOf]; omega
            · have hre := HET.out (by rw [h10]; decide)
              rw [h10] at hre
              have HV := Lib.hid (show payT L = ([], 10) by rw [pay_err HNE.out HST.out h500 (by rw [hre]; decide), hre])
              rw [h10]
              obtain ⟨bs, hbs⟩ : ∃ bs : ByteArray, bs = ⟨(buildL (prs r1)).1.toArray⟩ := ⟨_, rfl⟩
              rw [← hbs]
              rintro r w5 ⟨rfl, hb⟩
              have HB5 := Lib.hid (HBX.out.trans hb)
              clear hb hbs hre h10
              go_wp2_with (fail)
              go_ret2
              exact pay_bad HV.out (HB4.out.trans HB5.out)
          · obtain rfl : k = R.length := by omega
            rw [List.take_length] at hown HALL
            have HZ := Lib.hid (err_zero HRO1.out HALL.out)
            have HV := Lib.hid (pay_ok HNE.out HST.out h500 HZ.out)
            have HBL := Lib.hid (blocks_row HRO1.out)
            have hol : (R.map blkB).length ≤ 501 := by rw [List.length_map]; exact ro2
            have HO := Lib.hid (own_low hown HB4.out.size)
            have HBX4 := Lib.hid (HB4.out.trans HBX.out)
            have HKS := Lib.hid (show strSmall maxLen (keysL L) from fun i hi => by
              obtain ⟨e, he, hee⟩ := keys_mem (List.getElem_mem hi)
              rw [hee]
              have h1 := (HS.out e he).1
              have h2 : e.k.data.toList.length = e.k.size := rfl
              rw [h2]
              unfold maxLen; omega)
            have HKL := Lib.hid (keys_len L)
            rw [List.take_length]
            obtain ⟨OL, hOL⟩ : ∃ OL, R.map blkB = OL := ⟨_, rfl⟩
            rw [hOL] at HO hol HBL ⊢
            clear hown hbx hOL
            go_wp2_with (fail)
            refine (keys_any p cap L wr (H.out.bel HBX4.out) (by omega)).mono ?_
            rintro r w5 ⟨kb, kc, rfl, hks, hb⟩
            have HB5 := Lib.hid (HBX4.out.trans hb)
            have HO5 := Lib.hid (HO.out.bel hb)
            have HKA := Lib.hid hks
            clear hb hks
            obtain ⟨KL, hKL⟩ : ∃ KL, KL = keysL L := ⟨_, rfl⟩
            rw [← hKL] at HKA HKS HKL ⊢
            have HKLE := Lib.hid hKL
            clear hKL
            go_wp2_with (fail)
            refine (fbuild_any (some ⟨kb, 0, none⟩) kc KL w5 HKA.out (by have := HKL.out; omega) HKS.out).mono ?_
            rw [HKLE.out]
            obtain ⟨ft, hft⟩ : ∃ ft : ByteArray, ft = ⟨(buildF (keysL L)).toArray⟩ := ⟨_, rfl⟩
            have HFT := Lib.hid (show ft.data.toList = buildF (keysL L) by rw [hft])
            rw [← hft]
            clear hft
            rintro r w6 ⟨rfl, hb⟩
            have HB6 := Lib.hid (HB5.out.trans hb)
            have HO6 := Lib.hid (HO5.out.bel hb)
            clear hb
            go_wp2_with (fail)
            refine (counts_any p cap L w6 (H.out.bel HB6.out) (by omega) HAR.out).mono ?_
            obtain ⟨fo, hfo⟩ : ∃ fo : ByteArray, fo = ⟨(footL L).toArray⟩ := ⟨_, rfl⟩
            have HFO := Lib.hid (show fo.data.toList = footL L by rw [hfo])
            rw [← hfo]
            clear hfo
            rintro r w7 ⟨rfl, hb⟩
            have HB7 := Lib.hid (HB6.out.trans hb)
            have HO7 := Lib.hid (HO6.out.bel hb)
            have hz7 := HB7.out.size
            clear hb
            obtain ⟨op, ocap, hov⟩ := ownG_len HO7.out
            have HQ := Lib.hid (str_lit2 ft fo)
            go_wp2_with (at_builtin; refine stop_here ?_)
            refine go_on ?_
            refine append_all strOk rfl _ _ rfl rfl (HO7.out.alloc _) [ft.data.toList, fo.data.toList] rfl (src_at [ft.data.toList, fo.data.toList] (heap_alloc_new w7 _) HQ.out rfl) (by simp only [List.length_cons, List.length_nil]; unfold maxLen; omega) (by simp only [List.length_cons, List.length_nil]; omega) (by rw [World.size_alloc]; omega) ?_
            intro v8 w8 ho8 hk8 hv8
            have HB8 := Lib.hid (show Bel w w8 from (HB7.out.alloc _).trans_below (hk8.own (by rw [World.size_alloc]; omega) (fun kk hkk => (HO7.out.lt kk hkk).1)))
            rw [HFT.out, HFO.out, HBL.out] at ho8
            have HO8 := Lib.hid ho8
            clear ho8 hk8 hv8
            go_wp2_with (fail)
            go_ret2
            exact ⟨v8, by rw [HV.out]; rfl, by rw [HV.out]; exact HO8.out, HB8.out⟩
      · have h500' : (500 : Int) < (L.length : Int) := by omega
        have HV := Lib.hid (pay_many HNE.out HST.out (by omega))
        go_wp2_with (fail)
        go_ret2
        exact pay_bad HV.out HB2.out
end Go.Proofs.YteimllgoelleeaaGreatDoor
/- table.Build. -/
namespace Go.Proofs.YteimllgoelleeaaGreatDoor
open Go.RowKit Go.Deep

theorem build_pay (L : List EB) : buildT L = if (payT L).2 = 0 then (framesL (payT L).1, 0) else ([], (payT L).2) := by
  by_cases h1 : L = [] ∨ standB L = false
  · rw [buildT_arg h1, pay_arg h1]; rfl
  · have h0 : L ≠ [] := fun e => h1 (Or.inl e)
    have hs : standB L = true := by cases h : standB L with
      | true => rfl
      | false => exact absurd (Or.inr h) h1
    by_cases h2 : 500 < L.length
    · rw [buildT_many h0 hs h2, pay_many h0 hs h2]; rfl
    · by_cases h3 : rowsErr (rowsOf L) = 0
      · rw [buildT_ok h0 hs (by omega) h3, pay_ok h0 hs (by omega) h3]; rfl
      · rw [buildT_err h0 hs (by omega) h3, pay_err h0 hs (by omega) h3]
        show _ = if rowsErr (rowsOf L) = 0 then _ else _
        rw [if_neg h3]
theorem pay_small {L : List EB} (h : (payT L).2 = 0) : ∀ t ∈ (payT L).1, t.length ≤ 40000 := by
  by_cases h1 : L = [] ∨ standB L = false
  · rw [pay_arg h1] at h; cases h
  · have h0 : L ≠ [] := fun e => h1 (Or.inl e)
    have hs : standB L = true := by cases h : standB L with
      | true => rfl
      | false => exact absurd (Or.inr h) h1
    by_cases h2 : 500 < L.length
    · rw [pay_many h0 hs h2] at h; cases h
    · by_cases h3 : rowsErr (rowsOf L) = 0
      · rw [pay_ok h0 hs (by omega) h3]
        exact file_frames hs (by omega) h3
      · rw [pay_err h0 hs (by omega) h3] at h; exact absurd h h3
theorem frames_take {P : List (List UInt8)} {k : Nat} (h : k < P.length) : framesL (P.take (k + 1)) = framesL (P.take k) ++ frameL P[k] := by
  rw [List.take_add_one, List.getElem?_eq_getElem h, Option.toList_some, frames_snoc]
theorem splitF_len (most : Int) : ∀ (L row : List PR), (splitF most L row).length ≤ L.length + 1
  | [], row => by unfold splitF; split <;> simp
  | p :: L, row => by
    unfold splitF
    split
    · have := splitF_len most L []; simp only [List.length_cons]; omega
    · have := splitF_len most L (row ++ [p]); simp only [List.length_cons]; omega
theorem pay_len {L : List EB} (hL : L.length ≤ 1000) : (payT L).1.length ≤ 1003 := by
  unfold payT
  split
  · simp
  · split
    · simp
    · split
      · simp
      · unfold payL blocksL rowsOf
        have := splitF_len 600 (pairsL L) []
        have h2 : (pairsL L).length = L.length := by unfold pairsL; exact List.length_map ..
        simp only [List.length_append, List.length_map, List.length_cons, List.length_nil]
        omega
set_option maxHeartbeats 2000000 in
set_option maxRecDepth 20000 in
theorem pbuildT_any (p : Option Addr) (cap : Nat) (L : List EB) (w : World) (h : EntsAt w p L) (hL : L.length ≤ 1000) (hf : fitsL L) (hs : sizesL 100000 L) :
    Calls Tryz.prog 9 #[.slice p L.length cap] w fun e w' => e = .returned (buildV L) ∧ Bel w w' := by
  have HP := Lib.hid (build_pay L)
  have HSM := Lib.hid (pay_small (L := L))
  have hpl := pay_len hL
  have HC := Lib.hid (pay_any p cap L w h hL hf hs)
  clear h hf hs
  go_enter Tryz.func9, Tryz.ntmps9
  go_wp2_with (fail)
  refine HC.out.mono ?_
  rintro r w1 ⟨v, rfl, ho, hb⟩
  have HB1 := Lib.hid hb
  clear hb HC
  obtain ⟨x, hx⟩ : ∃ x, (payT L).2 = x := ⟨_, rfl⟩
  obtain ⟨P, hP⟩ : ∃ P, (payT L).1 = P := ⟨_, rfl⟩
  rw [hx] at HP HSM ⊢
  rw [hP] at HP HSM hpl ho
  clear hx hP
  by_cases h0 : x = 0
  · subst h0
    have HV := Lib.hid (show buildT L = (framesL P, 0) from HP.out.trans (if_pos rfl))
    have HS := Lib.hid (HSM.out rfl)
    obtain ⟨q, qc, rfl, hat⟩ := ownG_strs ho
    have HAT := Lib.hid hat
    clear hat ho HP HSM
    have HN := Lib.hid (BldW.new w1)
    go_wp2_with (fail)
    go_loopw [21] (fun iv z => ∃ k : Nat, k ≤ P.length ∧ iv = .int .i64 k ∧ BldW w1.heap.size (framesL (P.take k)) z ∧ (framesL (P.take k)).length ≤ 40020 * k ∧ Bel w1 z) (fun iv _ => P.length - (intOf iv).toNat)
    case atStart => exact ⟨0, Nat.zero_le _, rfl, by simpa [framesL] using HN.out, by simp [framesL], (Bel.refl w1).alloc _⟩
    case round =>
      obtain ⟨k, hk, rfl, hbl, hol, hbx⟩ := hrel
      have HBX := Lib.hid hbx
      by_cases hlt : k < P.length
      · obtain ⟨a, rfl, ca⟩ := (HAT.out.bel hbx) k hlt
        have hts := HS.out P[k] (List.getElem_mem hlt)
        have HFT := Lib.hid (frames_take hlt)
        obtain ⟨T, hT⟩ : ∃ T : ByteArray, T = ⟨P[k].toArray⟩ := ⟨_, rfl⟩
        have hTz : T.size ≤ 40000 := by rw [hT, mk_size10]; exact hts
        have hTd : T.data.toList = P[k] := by rw [hT]
        rw [← hT] at ca
        rw [← hTd] at HFT
        have HBL := Lib.hid hbl
        obtain ⟨F, hF⟩ : ∃ F, framesL (P.take k) = F := ⟨_, rfl⟩
        rw [hF] at HBL hol HFT
        have hki : (k : Int) < (P.length : Int) := by omega
        clear hbx hbl hts hT hTd hF
        go_wp2_with (fail)
        refine (frame_ok T wr hTz).mono ?_
        unfold frameV
        obtain ⟨G, hG⟩ : ∃ G : ByteArray, G = ⟨(frameL T.data.toList).toArray⟩ := ⟨_, rfl⟩
        have hGz : G.size ≤ 40013 := by
          rw [hG, mk_size10, frame_len]
          have := szN_le T.data.toList.length
          have e1 : T.data.toList.length = T.size := rfl
          omega
        have HG := Lib.hid (show G.data.toList = frameL T.data.toList by rw [hG])
        rw [← hG]
        rintro r w2 ⟨rfl, hb⟩
        have HB2 := Lib.hid (HBX.out.trans hb)
        have HBL2 := Lib.hid (HBL.out.bel hb)
        clear hb hG
        go_wp2_with (fail)
        refine (write_any w1.heap.size F G w2 HBL2.out (by omega)).mono ?_
        rintro r w3 ⟨rfl, hbl, hb⟩
        have HB3 := Lib.hid (show Bel w1 w3 from Below.trans HB2.out hb)
        rw [HG.out, ← HFT.out] at hbl
        have HBL3 := Lib.hid hbl
        have hln : (framesL (P.take (k + 1))).length ≤ 40020 * (k + 1) := by
          rw [HFT.out, ← HG.out, List.length_append]
          have : G.data.toList.length = G.size := rfl
          omega
        have HLN := Lib.hid hln
        clear hb hbl hln
        go_wp2_with (fail)
        go_roundw
        case rel => exact ⟨k + 1, hlt, by go_num, HBL3.out, HLN.out, HB3.out⟩
        case measure => simp [intOf]; omega
      · obtain rfl : k = P.length := by omega
        rw [List.take_length] at hbl
        have HBL := Lib.hid hbl
        clear hbl hbx
        go_wp2_with (fail)
        refine (bstring_any w1.heap.size _ wr HBL.out).mono ?_
        rintro r w2 ⟨rfl, hb⟩
        have HB2 := Lib.hid (show Bel w1 w2 from Below.trans HBX.out hb)
        clear hb
        go_wp2_with (fail)
        go_ret2
        exact ⟨by unfold buildV; rw [HV.out]; rfl, HB1.out.trans HB2.out⟩
  · have HV := Lib.hid (buildV_err (HP.out.trans (if_neg h0)))
    have hx0 : (x == 0) = false := by rw [beq_eq_false_iff_ne]; exact h0
    go_wp2_with (fail)
    go_ret2
    exact ⟨by rw [HV.out]; rfl, HB1.out⟩
end Go.Proofs.YteimllgoelleeaaGreatDoor
/- table.entriesIn at the payloads of a table file. -/
namespace Go.Proofs.YteimllgoelleeaaGreatDoor
open Go.RowKit Go.Deep

theorem pay_blk {L : List EB} {k : Nat} (h : k < (rowsOf L).length) : ∃ h2 : k < (payL L).length, (payL L)[k] = (buildL (rowsOf L)[k]).1 := by
  have hb : k < (blocksL L).length := by unfold blocksL; rw [List.length_map]; exact h
  refine ⟨by unfold payL; rw [List.length_append]; omega, ?_⟩
  unfold payL
  rw [List.getElem_append_left hb]
  exact List.getElem_map ..
theorem pay_count (L : List EB) : (payL L).length = (rowsOf L).length + 2 := by
  unfold payL blocksL
  rw [List.length_append, List.length_map]; rfl
theorem take_next {L : List EB} {m : Nat} (h : m < L.length) : L.take (m + 1) = L.take m ++ [L[m]] := by
  rw [List.take_add_one, List.getElem?_eq_getElem h]; rfl
theorem prs_pair {Lp : List PB} {r : List PR} (h : prs Lp = r) {j : Nat} (hj : j < Lp.length) : ∃ h2 : j < r.length, Lp[j].k.data.toList = r[j].k ∧ Lp[j].v.data.toList = r[j].v := by
  subst h
  refine ⟨by rw [prs_len]; exact hj, ?_, ?_⟩
  · rw [prs_get _ _ hj]; rfl
  · rw [prs_get _ _ hj]; rfl
theorem heap_new2 (w : World) (o o' : Obj) : ((w.alloc o).alloc o').heap[w.heap.size + 1]? = some o' := by
  have h := heap_alloc_new (w.alloc o) o'
  rwa [World.size_alloc] at h
theorem ent_lit (e : EB) : (#[.string e.k, .int .i64 e.q, .bool e.d, .string e.v] : Array Value).toList = entEl.all [e] := rfl
set_option maxHeartbeats 4000000 in
set_option maxRecDepth 20000 in
theorem entries_any (p : Option Addr) (cap : Nat) (L : List EB) (w : World) (h : StrsAt w p (payL L)) (hcap : (payL L).length ≤ cap) (hM : MaxOk w) (hst : standB L = true) (h0 : L ≠ []) (hl : L.length ≤ 500) (he : rowsErr (rowsOf L) = 0) :
    Calls Tryz.prog 33 #[.slice p (payL L).length cap] w fun e w' => ∃ v, e = .returned (.tuple #[v, .bool true]) ∧ OwnG entEl w.heap.size w' v L ∧ Bel w w' := by
  obtain ⟨N, hN⟩ : ∃ N, N = (rowsOf L).length := ⟨_, rfl⟩
  have hNp : 0 < N := by rw [hN]; exact List.length_pos_iff.2 (rows_not_nil h0)
  have hPC := pay_count L
  rw [← hN] at hPC
  have HBK := Lib.hid (fun k (h : k < (rowsOf L).length) => pay_blk (L := L) h)
  have HRD := Lib.hid (block_read hst he)
  have HRT := Lib.hid (stand_right hst)
  have HM := Lib.hid hM
  have H := Lib.hid h
  have HN := Lib.hid hN
  have hNc : N ≤ cap := by omega
  have hNc' : (N : Int) ≤ (cap : Int) := by omega
  have hN500 : N ≤ 501 := by
    rw [hN]
    have := split_len 600 (pairsL L) []
    have h2 : (pairsL L).length = L.length := List.length_map ..
    unfold rowsOf; omega
  have hN0 : (0 : Int) < (N : Int) := by omega
  have hlen2 : ((payL L).length : Int) - 2 = (N : Int) := by omega
  have HPC := Lib.hid hPC
  have HUA := Lib.hid (up_all L)
  clear h hM hst h0 he hN hPC hcap
  go_enter Tryz.func33, Tryz.ntmps33
  go_wp2_with (fail)
  go_loopw [4, 20] (fun lv iv x => ∃ k : Nat, k ≤ N ∧ iv = .int .i64 k ∧ OwnG entEl w.heap.size x lv (L.take (upN L k)) ∧ Bel w x) (fun _ iv _ => N - (intOf iv).toNat)
  case atStart => exact ⟨0, Nat.zero_le _, rfl, by rw [up_zero]; exact OwnG.nil _ _ _, Bel.refl w⟩
  case round =>
    obtain ⟨k, hk, rfl, hown, hb⟩ := hrel
    have HB := Lib.hid hb
    by_cases hlt : k < N
    · have hkr : k < (rowsOf L).length := by rw [← HN.out]; exact hlt
      obtain ⟨hkp, hpe⟩ := HBK.out k hkr
      obtain ⟨a, rfl, ca⟩ := (H.out.bel hb) k hkp
      rw [hpe] at ca
      obtain ⟨hr1, hr2⟩ := HRD.out (rowsOf L)[k] (List.getElem_mem hkr)
      have HUN := Lib.hid (up_next hkr)
      have HUP := Lib.hid (fun j hj => up_pair (L := L) (k := k) (j := j) hkr hj)
      obtain ⟨s, hs⟩ : ∃ s : ByteArray, s = ⟨(buildL (rowsOf L)[k]).1.toArray⟩ := ⟨_, rfl⟩
      have hsz : s.size ≤ 1000000 := by rw [hs, mk_size10]; omega
      have hsd : s.data.toList = (buildL (rowsOf L)[k]).1 := by rw [hs]
      rw [← hs] at ca
      rw [← hsd] at hr1
      obtain ⟨r, hr⟩ : ∃ r, r = (rowsOf L)[k] := ⟨_, rfl⟩
      rw [← hr] at hr1 HUN HUP
      have HSR := Lib.hid (search_some (f := fun _ => true) hr1)
      rw [filter_all] at HSR
      have hki : (k : Int) < (N : Int) := by omega
      have hul : upN L (k + 1) ≤ L.length := by
        have h1 := HUN.out
        by_cases hz : r.length = 0
        · rw [h1, hz]
          have : upN L k ≤ L.length := by
            have h2 : ∀ m, m ≤ (rowsOf L).length → upN L m ≤ L.length := fun m hm => by
              rw [← HUA.out]
              unfold upN
              have : ((rowsOf L).take m).flatten.length ≤ ((rowsOf L).take (rowsOf L).length).flatten.length := by
                rw [List.take_length]
                conv => rhs; rw [← List.take_append_drop m (rowsOf L), List.flatten_append, List.length_append]
                omega
              exact this
            exact h2 k (by omega)
          omega
        · obtain ⟨h2, -⟩ := HUP.out (r.length - 1) (by omega)
          omega
      obtain ⟨lp, lcap, hlv⟩ := ownG_len hown
      subst hlv
      have HOW := Lib.hid hown
      have htl : (L.take (upN L k)).length = upN L k := by rw [List.length_take]; have := HUN.out; omega
      clear hr hs hsd hr2 hpe hb hown hkp hkr
      go_wp2_with (fail)
      refine (read_any s wr hsz).mono ?_
      rintro e w1 ⟨v, Lp, rfl, hop, hprs, hb1⟩
      rw [HSR.out] at hprs ⊢
      have hprs : prs Lp = r := hprs
      obtain ⟨pp, pcap, rfl⟩ := ownG_len hop
      have hrl : Lp.length = r.length := by rw [← hprs, prs_len]
      have HPR := Lib.hid (fun j hj => prs_pair hprs (j := j) hj)
      have HB1 := Lib.hid (HB.out.trans hb1)
      have HO1 := Lib.hid (HOW.out.bel hb1)
      have HP1 := Lib.hid (own_low hop HB.out.size)
      clear hop hb1 HOW hprs
      have hsum : ¬ (500 : Int) < ((L.take (upN L k)).length : Int) + (Lp.length : Int) := by
        rw [htl, hrl]; have := HUN.out; omega
      have hw1 : IntKind.i64.wrap (((L.take (upN L k)).length : Int) + (Lp.length : Int)) = ((L.take (upN L k)).length : Int) + (Lp.length : Int) := by
        rw [IntKind.wrap_i64]; have := HUN.out; omega
      obtain ⟨T, hT⟩ : ∃ T, T = L.take (upN L k) := ⟨_, rfl⟩
      rw [← hT] at HO1 hsum hw1 htl ⊢
      have HT := Lib.hid hT
      have HTL := Lib.hid htl
      have HRL := Lib.hid hrl
      clear hT htl hrl
      go_wp2_with (fail)
      go_loopw [4, 41] (fun lv jv x => ∃ j : Nat, j ≤ Lp.length ∧ jv = .int .i64 j ∧ OwnG entEl w.heap.size x lv (L.take (upN L k + j)) ∧ OwnG pairEl w.heap.size x (.slice pp Lp.length pcap) Lp ∧ Bel w x) (fun _ jv _ => Lp.length - (intOf jv).toNat)
      case atStart => exact ⟨0, Nat.zero_le _, rfl, by rw [Nat.add_zero, ← HT.out]; exact HO1.out, HP1.out, HB1.out⟩
      case round =>
        obtain ⟨j, hj, rfl, hown, hop, hb⟩ := hrel
        have HB := Lib.hid hb
        obtain ⟨lp2, lcap2, hlv⟩ := ownG_len hown
        subst hlv
        have HOW := Lib.hid hown
        have HOP := Lib.hid hop
        have hul2 := HUN.out
        have hrl2 := HRL.out
        by_cases hlt2 : j < Lp.length
        · obtain ⟨pp', pc', hv, hat⟩ := ownG_pairs hop
          cases hv
          obtain ⟨a2, B, O, sp, rfl, ha2, c0, c1⟩ := hat j hlt2
          obtain ⟨hjr, hK, hV⟩ := HPR.out j hlt2
          obtain ⟨hel, hpe⟩ := HUP.out j hjr
          rw [hpe] at hK hV
          have HTN := Lib.hid (take_next hel)
          have hright := HRT.out _ (List.getElem_mem hel)
          obtain ⟨e0, he0⟩ : ∃ e0, e0 = L[upN L k + j] := ⟨_, rfl⟩
          rw [← he0] at hK hV HTN hright
          obtain ⟨K, hKe⟩ : ∃ K, K = Lp[j].k := ⟨_, rfl⟩
          obtain ⟨V, hVe⟩ : ∃ V, V = Lp[j].v := ⟨_, rfl⟩
          rw [← hKe] at hK c0
          rw [← hVe] at hV c1
          have HKK := Lib.hid hK; have HVV := Lib.hid hV; have HRI := Lib.hid hright
          have hji : (j : Int) < (Lp.length : Int) := by omega
          have htl2 : (L.take (upN L k + j)).length = upN L k + j := by rw [List.length_take]; omega
          have hbnd : upN L k + j ≤ 500 := by omega
          obtain ⟨T2, hT2⟩ : ∃ T2, T2 = L.take (upN L k + j) := ⟨_, rfl⟩
          rw [← hT2] at HOW HTN htl2
          have HTL2 := Lib.hid htl2
          have hj2 : upN L k + (j + 1) = upN L k + j + 1 := by omega
          clear hK hV hright hKe hVe he0 hpe hel hjr hat hown hop hb
          rw [← hT2]
          clear hT2 htl2 hrl2 hul2
          have HM1 := Lib.hid ((HM.out.bel HB.out).bel ((Bel.refl wr).alloc (.cells #[.string K, .string V] 137)))
          go_wp2_with (fail)
          refine (entryof_any e0 K V _ HM1.out HRI.out HKK.out HVV.out).mono ?_
          rintro e w3 ⟨rfl, hb3⟩
          have HB3 := Lib.hid ((HB.out.alloc _).trans hb3)
          have HO3 := Lib.hid ((HOW.out.alloc _).bel hb3)
          have HP3 := Lib.hid ((HOP.out.alloc _).bel hb3)
          have hz3 := HB3.out.size
          clear hb3
          have HQ := Lib.hid (ent_lit e0)
          have HTB := Lib.hid (show T2.length ≤ 500 by rw [HTL2.out]; exact hbnd)
          go_wp2_with (at_builtin; refine stop_here ?_)
          refine go_on ?_
          refine append_all entOk rfl _ _ rfl rfl ((HO3.out.alloc _).alloc _) [e0] rfl (src_at [e0] (heap_new2 w3 _ _) HQ.out rfl) (by simp only [List.length_singleton]; have := HTB.out; unfold maxLen; omega) (by simp only [List.length_singleton]; have := HTB.out; omega) (by rw [World.size_alloc, World.size_alloc]; omega) ?_
          intro v5 w5 ho5 hk5 hv5
          have HB5 := Lib.hid (((HB3.out.alloc _).alloc _).trans_below (hk5.own (by rw [World.size_alloc, World.size_alloc]; omega) (fun k hk => (HO3.out.lt k hk).1)))
          have HP5 := Lib.hid (((HP3.out.alloc _).alloc _).keep hk5 (fun kk hkk hm => own_apart HP3.out HO3.out (by decide) kk hkk (Option.mem_toList.1 hm)))
          rw [← HTN.out] at ho5
          have HO5 := Lib.hid ho5
          clear ho5 hk5 hv5
          go_wp2_with (fail)
          go_roundw
          case rel => exact ⟨j + 1, by omega, by go_num, by rw [hj2]; exact HO5.out, HP5.out, HB5.out⟩
          case measure => simp [intOf]; omega
        · obtain rfl : j = Lp.length := by omega
          clear hown hop hb
          have HOX := Lib.hid (show OwnG entEl w.heap.size wr (.slice lp2 (L.take (upN L (k + 1))).length lcap2) (L.take (upN L (k + 1))) by have h9 := HOW.out; rwa [hrl2, ← hul2] at h9)
          rw [hrl2, ← hul2]
          clear hrl2 hul2
          go_wp2_with (fail)
          go_roundw
          case rel => exact ⟨k + 1, hlt, by go_num, HOX.out, HB.out⟩
          case measure => simp [intOf]; omega
    · obtain rfl : k = N := by omega
      rw [HN.out, HUA.out, List.take_length] at hown
      have HO := Lib.hid hown
      clear hown hb
      go_wp2_with (fail)
      go_ret2
      exact ⟨_, rfl, HO.out, HB.out⟩
end Go.Proofs.YteimllgoelleeaaGreatDoor
