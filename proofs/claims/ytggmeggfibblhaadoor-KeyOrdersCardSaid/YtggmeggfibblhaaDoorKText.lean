/- key.text: the text that stands ahead of some bytes. -/
import Derived.Test.YtggmeggfibblhaaDoorKRPut
set_option linter.unusedSimpArgs false
set_option linter.unusedVariables false
namespace Go.Proofs.YtggmeggfibblhaaDoor
open Go.RowKit Go.Deep

theorem own_len {B : Nat} {w : World} {v : Value} {l : List UInt8} (h : Own B w v l) : ∃ p cap, v = .slice p l.length cap := by
  rcases h.2 with ⟨h1, h0⟩ | ⟨g, cap, cur, rfl, hg, hh, _⟩
  · exact ⟨none, 0, by rw [h1, h0]⟩
  · exact ⟨_, _, rfl⟩
def textR (l : List UInt8) : Option (List UInt8 × List UInt8) := match unescL l with
  | some p => if p.1.length ≤ 1000 then some p else none
  | none => none
def textV (o : Option (List UInt8 × List UInt8)) : Value := match o with
  | some p => .tuple #[.string ⟨p.1.toArray⟩, .string ⟨p.2.toArray⟩, .bool true]
  | none => .tuple #[.string ⟨#[]⟩, .string ⟨#[]⟩, .bool false]
theorem textR_none {l : List UInt8} (h : unescL l = none) : textR l = none := by unfold textR; rw [h]
theorem textR_long {l : List UInt8} (h : ∀ p, unescL l = some p → 1000 < p.1.length) : textR l = none := by
  unfold textR
  cases hu : unescL l with
  | none => rfl
  | some p => have := h p hu; simp only; rw [if_neg (by omega)]
theorem textR_some {l t r : List UInt8} (h : unescL l = some (t, r)) (h2 : t.length ≤ 1000) : textR l = some (t, r) := by
  unfold textR; rw [h]; simp only; rw [if_pos h2]
def pre (acc : List UInt8) (o : Option (List UInt8 × List UInt8)) : Option (List UInt8 × List UInt8) := o.map fun p => (acc ++ p.1, p.2)
theorem pre_nil (o : Option (List UInt8 × List UInt8)) : pre [] o = o := by cases o <;> rfl
theorem pre_cons (acc : List UInt8) (b : UInt8) (o : Option (List UInt8 × List UInt8)) : pre acc (o.map fun p => (b :: p.1, p.2)) = pre (acc ++ [b]) o := by cases o <;> simp [pre]
theorem drop_cons (s : ByteArray) (k : Nat) (h : k < s.size) : s.data.toList.drop k = s[k] :: s.data.toList.drop (k + 1) := by
  rw [List.drop_eq_getElem_cons (by simpa using h)]; rfl

theorem ret_text {x y x' y' : ByteArray} {b : Bool} (h : x = x') (h' : y = y') : Ending.returned (.tuple #[.string x, .string y, .bool b]) = Ending.returned (.tuple #[.string x', .string y', .bool b]) := by rw [h, h']
def TxtRel (s : ByteArray) (w : World) (v i : Value) (x : World) : Prop :=
  ∃ (k : Nat) (acc : List UInt8), k ≤ s.size ∧ i = .int .i64 k ∧ acc.length ≤ k ∧ Own w.heap.size x v acc ∧ pre acc (unescL (s.data.toList.drop k)) = unescL s.data.toList ∧ Bel w x

set_option maxHeartbeats 4000000 in
theorem text_any (s : ByteArray) (w : World) (hs : s.size ≤ 1000000) :
    Calls Tryd.prog 39 #[.string s] w fun e w' => e = .returned (textV (textR s.data.toList)) ∧ Bel w w' := by
  have hsl : s.data.toList.length = s.size := rfl
  go_enter Tryd.func39, Tryd.ntmps39
  go_wp2_with (fail)
  go_loopw [5, 6] (fun v i x => TxtRel s w v i x) (fun _ i _ => s.size - (intOf i).toNat)
  case atStart => exact ⟨0, [], Nat.zero_le _, rfl, Nat.le_refl _, Own.nil _ _, pre_nil _, Bel.refl w⟩
  case round =>
    obtain ⟨k, acc, hk, rfl, hak, hown, hp, hb⟩ := hrel
    obtain ⟨p, cap, rfl⟩ := own_len hown
    have HV := Lib.hid hown
    have HB := Lib.hid hb; clear hb
    have HP := Lib.hid hp; clear hp
    by_cases hlt : k + 1 < s.size
    · have i1 : (k : Int) + 1 < (s.size : Int) := by omega
      by_cases hal : acc.length ≤ 1000
      · by_cases h0 : s[k] = 0
        · have h0' : s[k].toNat = 0 := by rw [h0]; rfl
          have e0 : s.data.toList.drop k = 0 :: s[k + 1] :: s.data.toList.drop (k + 2) := by rw [drop_cons s k (by omega), drop_cons s (k + 1) (by omega), h0]
          by_cases h1 : s[k + 1] = 0
          · have h1' : s[k + 1].toNat = 0 := by rw [h1]; rfl
            have hX := HP.out
            rw [e0, h1, unesc_end] at hX
            have HX := Lib.hid (textR_some (t := acc) (r := s.data.toList.drop (k + 2)) (l := s.data.toList) (by rw [← hX]; simp [pre]) hal)
            clear hX e0
            have hcv : ∀ n, (convert 46 9 (.slice p acc.length cap)).run Tryd.prog (wr.drewN n) = .ok (.string ⟨acc.toArray⟩) (wr.drewN n) := fun n => own_string (hown.drewN n)
            have c1 : (k : Int) + 2 ≤ (s.size : Int) := by omega
            clear hown
            go_wp2_with (fail)
            go_quiet (fail)
            go_wp2_with (fail)
            go_ret3
            exact ⟨by rw [HX.out]; exact ret_text rfl (ba_eq (ext_end s (k + 2))), HB.out.drewN _⟩
          · have h1' : ¬ s[k + 1].toNat = 0 := fun h => h1 (UInt8.toNat_inj.1 h)
            by_cases h2 : s[k + 1] = 255
            · have h2' : s[k + 1].toNat = 255 := by rw [h2]; rfl
              have hX := HP.out
              rw [e0, h2, unesc_mark, pre_cons] at hX
              have HX := Lib.hid hX
              clear hX e0 hown
              go_wp2_with (at_builtin; refine stop_here ?_)
              refine go_on ?_
              refine append_lit rfl _ _ rfl w.heap.size _ _ rfl HV.out _ _ _ [0] rfl rfl rfl (by simp; omega) HB.out.size (Or.inl rfl) ?_
              intro v1 w1 hown1 hbel1 hz1
              have HV1 := Lib.hid hown1
              replace HB := Lib.hid (HB.out.trans_below hbel1)
              clear hown1 hbel1 HV
              go_wp2_with (fail)
              go_roundw
              case rel => exact ⟨k + 2, acc ++ [0], by omega, by go_num, by simp; omega, HV1.out, HX.out, HB.out⟩
              case measure => simp [intOf]; omega
            · have h2' : ¬ s[k + 1].toNat = 255 := fun h => h2 (UInt8.toNat_inj.1 h)
              have hX := HP.out
              rw [e0, unesc_bad _ _ h1 h2] at hX
              have HX := Lib.hid (textR_none hX.symm)
              clear hX e0 hown
              go_wp2_with (fail)
              go_ret3
              exact ⟨by rw [HX.out]; rfl, HB.out⟩
        · have h0' : ¬ s[k].toNat = 0 := fun h => h0 (UInt8.toNat_inj.1 h)
          have hX := HP.out
          rw [drop_cons s k (by omega), unesc_other _ _ h0, pre_cons] at hX
          have HX := Lib.hid hX
          clear hX hown
          go_wp2_with (at_builtin; refine stop_here ?_)
          refine go_on ?_
          refine append_lit rfl _ _ rfl w.heap.size _ _ rfl HV.out _ _ _ [s[k]] rfl rfl rfl (by simp; omega) HB.out.size (Or.inl rfl) ?_
          intro v1 w1 hown1 hbel1 hz1
          have HV1 := Lib.hid hown1
          replace HB := Lib.hid (HB.out.trans_below hbel1)
          clear hown1 hbel1 HV
          go_wp2_with (fail)
          go_roundw
          case rel => exact ⟨k + 1, acc ++ [s[k]], by omega, by go_num, by simp; omega, HV1.out, HX.out, HB.out⟩
          case measure => simp [intOf]; omega
      · have HX := Lib.hid (show textR s.data.toList = none from textR_long fun q hq => by
          rw [← HP.out] at hq
          obtain ⟨a, _, rfl⟩ := Option.map_eq_some_iff.1 hq
          simp; omega)
        have i2 : ¬ ((acc.length : Nat) : Int) ≤ 1000 := by omega
        clear hown
        go_wp2_with (fail)
        go_ret3
        exact ⟨by rw [HX.out]; rfl, HB.out⟩
    · have hX := HP.out
      rw [unesc_short _ (by rw [List.length_drop]; omega)] at hX
      have HX := Lib.hid (textR_none hX.symm)
      have i1 : ¬ (k : Int) + 1 < (s.size : Int) := by omega
      clear hown hX
      go_wp2_with (fail)
      go_ret3
      exact ⟨by rw [HX.out]; rfl, HB.out⟩
end Go.Proofs.YtggmeggfibblhaaDoor
