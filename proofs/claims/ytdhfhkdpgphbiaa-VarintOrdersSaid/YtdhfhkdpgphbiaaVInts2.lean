/- moultref3.Ints, moultlaw3.same, and ToInts of both. -/
import Derived.Test.YtdhfhkdpgphbiaaVInts
set_option linter.unusedSimpArgs false
set_option linter.unusedVariables false
namespace Go.Proofs.Ytdhfhkdpgphbiaa
open Go.RowKit Go.Deep

def RIntsRel (L : List Int) (w : World) (v i : Value) (x : World) : Prop := ∃ k : Nat, k ≤ L.length ∧ i = .int .i64 k ∧ v = .string ⟨(intsL (L.take k)).toArray⟩ ∧ Bel w x

set_option maxHeartbeats 2000000 in
theorem rints_any (p : Option Addr) (cap : Nat) (L : List Int) (w : World) (h : IntsAt w p L) (hL : L.length ≤ 300) (hin : allIn L) :
    Calls Try.prog 23 #[.slice p L.length cap] w fun e w' => e = .returned (.string ⟨(intsL L).toArray⟩) ∧ Bel w w' := by
  have H := Lib.hid h; clear h
  have HI := Lib.hid hin; clear hin
  go_enter Try.func23, Try.ntmps23
  go_wp2_with (fail)
  go_loopw [3, 4] (fun v i x => RIntsRel L w v i x) (fun _ i _ => L.length - (intOf i).toNat)
  case atStart => exact ⟨0, Nat.zero_le _, rfl, rfl, Bel.refl w⟩
  case round =>
    obtain ⟨k, hk, rfl, rfl, hb⟩ := hrel
    have HB := Lib.hid hb; clear hb
    have hlen := intsL_len (L.take k)
    rw [List.length_take] at hlen
    by_cases hlt : k < L.length
    · obtain ⟨a, rfl, hc⟩ := (H.out.bel HB.out) k hlt
      have hr := Lib.hid (HI.out L[k] (List.getElem_mem hlt))
      have HS := Lib.hid (show intsL (L.take (k + 1)) = intsL (L.take k) ++ putL (foldN L[k]) by rw [take_snoc L k hlt, intsL_snoc])
      have hf := foldN_lt L[k] hr.out
      have hz := putL_len (foldN L[k])
      have hz9 := szN_le (foldN L[k])
      go_wp2_with (fail)
      refine (rfold_any L[k] _ hr.out).mono ?_
      rintro e w1 ⟨rfl, hb⟩
      replace HB := Lib.hid (HB.out.trans hb.bel); clear hb
      go_wp2_with (fail)
      refine (rput_any (foldN L[k]) _ hf).mono ?_
      rintro e w2 ⟨rfl, hb⟩
      replace HB := Lib.hid (HB.out.trans hb); clear hb
      go_wp2_with (fail)
      go_roundw
      case rel => exact ⟨k + 1, hlt, by go_num, by rw [HS.out, ba_append], HB.out⟩
      case measure => simp [intOf]; omega
    · have HX := Lib.hid (show L.take k = L from List.take_of_length_le (by omega))
      go_wp2_with (fail)
      go_ret
      exact ⟨ret_string (by rw [HX.out]), HB.out⟩

def SameRel (L : List Int) (i : Value) : Prop := ∃ k : Nat, k ≤ L.length ∧ i = .int .i64 k

set_option maxHeartbeats 2000000 in
theorem same_any (p q : Option Addr) (cap cap' : Nat) (L : List Int) (w : World) (h : IntsAt w p L) (h' : IntsAt w q L) (hL : L.length ≤ 1000) :
    Calls Try.prog 24 #[.slice p L.length cap, .slice q L.length cap'] w fun e w' => e = .returned (.bool true) ∧ Drw w w' := by
  have H := Lib.hid h; clear h
  have H' := Lib.hid h'; clear h'
  go_enter Try.func24, Try.ntmps24
  go_wp2_with (fail)
  go_loopw [5] (fun i x => SameRel L i ∧ Drw w x) (fun i _ => L.length - (intOf i).toNat)
  case atStart => exact ⟨⟨0, Nat.zero_le _, rfl⟩, Drw.refl w⟩
  case round =>
    obtain ⟨⟨k, hk, rfl⟩, hw⟩ := hrel
    have HW := Lib.hid hw; clear hw
    by_cases hlt : k < L.length
    · obtain ⟨a, rfl, hc⟩ := (H.out.bel HW.out.bel) k hlt
      obtain ⟨b, rfl, hd⟩ := (H'.out.bel HW.out.bel) k hlt
      go_wp2_with (fail)
      go_quiet (fail)
      go_wp2_with (fail)
      go_roundw
      case rel => exact ⟨⟨k + 1, hlt, by go_num⟩, HW.out.drewN _⟩
      case measure => simp [intOf]; omega
    · go_wp2_with (fail)
      go_ret
      exact ⟨rfl, HW.out⟩

/-- What ToInts answers: so many ints, and what is left. -/
def toRes (many : Int) (s : List UInt8) : Option (List Int × List UInt8) := if many < 0 ∨ 1000 < many then none else toL many.toNat [] s
def elems (r : Option (List Int × List UInt8)) : List Int := (r.map (·.1)).getD []
def left (r : Option (List Int × List UInt8)) : List UInt8 := (r.map (·.2)).getD []
def ToPost (r : Option (List Int × List UInt8)) (w : World) (e : Ending) (w' : World) : Prop :=
  ∃ v, e = .returned (.tuple #[v, .string ⟨(left r).toArray⟩, .bool r.isSome]) ∧ OwnG intEl w.heap.size w' v (elems r) ∧ Bel w w'
theorem ToPost.none {w w' : World} (hb : Bel w w') : ToPost none w (.returned (.tuple #[.slice Option.none 0 0, .string ⟨#[]⟩, .bool false])) w' := ⟨_, rfl, OwnG.nil _ _ _, hb⟩

def TRel (m : Nat) (s : List UInt8) (w : World) (sv lv i : Value) (x : World) : Prop :=
  ∃ (k : Nat) (acc : List Int) (r : ByteArray), k ≤ m ∧ i = .int .i64 k ∧ acc.length = k ∧ sv = .string r ∧ r.size ≤ s.length ∧ OwnG intEl w.heap.size x lv acc ∧ toL (m - k) acc r.data.toList = toL m [] s ∧ Bel w x

theorem toL_step (j : Nat) (acc : List Int) (s : List UInt8) (h : (takeL s).2.2 = true) : toL (j + 1) acc s = toL j (acc ++ [unfoldZ (takeL s).1]) (takeL s).2.1 := by rw [toL, if_pos h]
theorem toL_stop (j : Nat) (acc : List Int) (s : List UInt8) (h : (takeL s).2.2 = false) : toL (j + 1) acc s = none := by rw [toL, if_neg (by rw [h]; simp)]

set_option maxHeartbeats 4000000 in
theorem toints_any (s : ByteArray) (many : Int) (w : World) (hs : s.size ≤ 1000000) (hm : -9223372036854775808 ≤ many ∧ many ≤ 9223372036854775807) :
    Calls Try.prog 21 #[.string s, .int .i64 many] w (ToPost (toRes many s.data.toList) w) := by
  obtain ⟨hm1, hm2⟩ := hm
  by_cases c1 : many < 0
  · rw [toRes, if_pos (Or.inl c1)]
    go_enter Try.func21, Try.ntmps21
    go_wp2_with (fail)
    go_ret3
    exact ToPost.none (Bel.refl w)
  by_cases c2 : 1000 < many
  · rw [toRes, if_pos (Or.inr c2)]
    go_enter Try.func21, Try.ntmps21
    go_wp2_with (fail)
    go_ret3
    exact ToPost.none (Bel.refl w)
  obtain ⟨m, rfl⟩ : ∃ m : Nat, many = m := ⟨many.toNat, by omega⟩
  rw [toRes, if_neg (by omega), Int.toNat_natCast]
  have hsl : s.data.toList.length = s.size := rfl
  go_enter Try.func21, Try.ntmps21
  go_wp2_with (fail)
  go_loopw [0, 7, 18] (fun sv lv i x => TRel m s.data.toList w sv lv i x) (fun _ _ i _ => m - (intOf i).toNat)
  case atStart => exact ⟨0, [], s, Nat.zero_le _, rfl, rfl, rfl, Nat.le_refl _, OwnG.nil _ _ _, rfl, Bel.refl w⟩
  case round =>
    obtain ⟨k, acc, r, hk, rfl, hacc, rfl, hrs, hown, hto, hb⟩ := hrel
    have HT := Lib.hid hto; clear hto
    have HV := Lib.hid hown; clear hown
    have HB := Lib.hid hb; clear hb
    rw [hsl] at hrs
    by_cases hlt : k < m
    · go_wp2_with (fail)
      refine (take_any r _ (by omega)).mono ?_
      rintro e w1 ⟨rfl, hb⟩
      replace HB := Lib.hid (HB.out.trans hb)
      replace HV := Lib.hid (HV.out.bel hb); clear hb
      unfold takeV
      have hu := take_lt r.data.toList
      have hrest := take_rest r.data.toList
      obtain ⟨j, hj⟩ : ∃ j, m - k = j + 1 := ⟨m - k - 1, by omega⟩
      have hj2 : m - (k + 1) = j := by omega
      have HJ := Lib.hid hj2
      have hrl : r.data.toList.length = r.size := rfl
      rcases hok : (takeL r.data.toList).2.2 with _ | _
      · have HN := Lib.hid (show toL m [] s.data.toList = none from HT.out.symm.trans (by rw [hj]; exact toL_stop j acc _ hok))
        clear hj hj2
        go_wp2_with (fail)
        go_ret3
        rw [HN.out]
        exact ToPost.none HB.out
      · have HN := Lib.hid (show toL j (acc ++ [unfoldZ (takeL r.data.toList).1]) (takeL r.data.toList).2.1 = toL m [] s.data.toList from (toL_step j acc _ hok).symm.trans (by rw [← hj]; exact HT.out))
        clear hj hj2 hok
        generalize takeL r.data.toList = q at *
        obtain ⟨u, rest, ok⟩ := q
        simp only at hu hrest
        go_wp2_with (fail)
        refine (unfold_any u _ hu).mono ?_
        rintro e w2 ⟨rfl, hb⟩
        replace HB := Lib.hid (HB.out.trans hb.bel)
        replace HV := Lib.hid (HV.out.bel hb.bel); clear hb
        go_wp2_with (at_builtin; refine stop_here ?_)
        refine go_on ?_
        refine append_glit intOk rfl _ _ rfl rfl HV.out _ _ _ [unfoldZ u] rfl rfl rfl (by simp [maxLen]; omega) (by simp; omega) HB.out.size (Or.inl rfl) ?_
        intro v3 w3 hown3 hbel3 hZ3
        have HV3 := Lib.hid hown3
        have HB3 := Lib.hid (HB.out.trans_below hbel3)
        clear hown3 hbel3
        go_wp2_with (fail)
        go_roundw
        case rel =>
          refine ⟨k + 1, acc ++ [unfoldZ u], ⟨rest.toArray⟩, hlt, by go_num, by simp [hacc], rfl, ?_, HV3.out, by rw [HJ.out]; exact HN.out, HB3.out⟩
          show rest.toArray.size ≤ _
          simp only [List.size_toArray]; omega
        case measure => simp [intOf]; omega
    · obtain rfl : k = m := by omega
      have HN := Lib.hid (HT.out.symm.trans (by rw [Nat.sub_self]; rfl : toL (k - k) acc r.data.toList = some (acc, r.data.toList)))
      go_wp2_with (fail)
      go_ret3
      rw [HN.out]
      exact ⟨_, by rw [left]; simp [ba_list], HV.out, HB.out⟩
end Go.Proofs.Ytdhfhkdpgphbiaa
