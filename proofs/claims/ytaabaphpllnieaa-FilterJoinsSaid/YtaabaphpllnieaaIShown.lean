/- moultlaw9.same, small, shown. -/
import Derived.Test.YtaabaphpllnieaaIFull
import Derived.Test.YtaabaphpllnieaaIRef
set_option linter.unusedSimpArgs false
set_option linter.unusedVariables false
namespace Go.Proofs.Ytaabaphpllnieaa
open Go.RowKit Go.Deep

set_option maxHeartbeats 2000000 in
theorem same_any (p q : Option Addr) (cap cap' : Nat) (L : List Nat) (w : World) (h : NumsAt w p L) (h' : NumsAt w q L) (hL : L.length ≤ 1000000) :
    Calls Try.prog 12 #[.slice p L.length cap, .slice q L.length cap'] w fun e w' => e = .returned (.bool true) ∧ Drw w w' := by
  have H := Lib.hid h; clear h
  have H' := Lib.hid h'; clear h'
  go_enter Try.func12, Try.ntmps12
  go_wp2_with (fail)
  go_loopw [5] (fun i x => (∃ k : Nat, k ≤ L.length ∧ i = .int .i64 k) ∧ Drw w x) (fun i _ => L.length - (intOf i).toNat)
  case atStart => exact ⟨⟨0, Nat.zero_le _, rfl⟩, Drw.refl w⟩
  case round =>
    obtain ⟨⟨k, hk, rfl⟩, hw⟩ := hrel
    have HW := Lib.hid hw; clear hw
    by_cases hlt : k < L.length
    · obtain ⟨a, rfl, hc⟩ := (H.out.bel HW.out.bel) k hlt
      obtain ⟨a', rfl, hc'⟩ := (H'.out.bel HW.out.bel) k hlt
      go_wp2_with (fail)
      go_quiet (fail)
      go_wp2_with (fail)
      go_roundw
      case rel => exact ⟨⟨k + 1, hlt, by go_num⟩, HW.out.drewN _⟩
      case measure => simp [intOf]; omega
    · go_wp2_with (fail)
      go_ret
      exact ⟨rfl, HW.out⟩
/-- Not too many keys, none too long. -/
def SmallOk (L : List (List UInt8)) : Prop := L.length ≤ 200 ∧ strSmall 300 L
set_option maxHeartbeats 2000000 in
theorem small_any (p : Option Addr) (cap : Nat) (L : List (List UInt8)) (w : World) (h : StrsAt w p L) (hL : L.length ≤ maxLen) (hs : strSmall maxLen L) :
    Calls Try.prog 15 #[.slice p L.length cap] w fun e w' => Drw w w' ∧ ((SmallOk L ∧ e = .returned (.bool true)) ∨ e = .returned (.bool false)) := by
  unfold maxLen at hL
  have H := Lib.hid h; clear h
  have HS := Lib.hid hs; clear hs
  by_cases h2 : L.length ≤ 200
  · have h2' : (L.length : Int) ≤ 200 := by omega
    go_enter Try.func15, Try.ntmps15
    go_wp2_with (fail)
    go_loopw [3] (fun i x => (∃ k : Nat, k ≤ L.length ∧ i = .int .i64 k ∧ ∀ j (h : j < L.length), j < k → L[j].length ≤ 300) ∧ Drw w x) (fun i _ => L.length - (intOf i).toNat)
    case atStart => exact ⟨⟨0, Nat.zero_le _, rfl, fun j _ h => by omega⟩, Drw.refl w⟩
    case round =>
      obtain ⟨⟨k, hk, rfl, hall⟩, hw⟩ := hrel
      have HA := Lib.hid hall; clear hall
      have HW := Lib.hid hw; clear hw
      by_cases hlt : k < L.length
      · obtain ⟨a, rfl, hc⟩ := (H.out.bel HW.out.bel) k hlt
        have hkl := HS.out k hlt
        unfold maxLen at hkl
        have HSZ := Lib.hid (show (⟨L[k].toArray⟩ : ByteArray).size = L[k].length by show L[k].toArray.size = _; rw [List.size_toArray])
        obtain ⟨t, ht⟩ : ∃ t : ByteArray, t = ⟨L[k].toArray⟩ := ⟨_, rfl⟩
        rw [← ht] at hc HSZ
        clear ht
        have htl : t.size ≤ 9223372036854775807 := by rw [HSZ.out]; omega
        by_cases h3 : t.size ≤ 300
        · have h3' : (t.size : Int) ≤ 300 := by omega
          have HA2 := Lib.hid (show ∀ j (h : j < L.length), j < k + 1 → L[j].length ≤ 300 from fun j h hj => by
            by_cases e : j = k
            · subst e; have := HSZ.out; omega
            · exact HA.out j h (by omega))
          clear hkl
          go_wp2_with (fail)
          go_roundw
          case rel => exact ⟨⟨k + 1, hlt, by go_num, HA2.out⟩, HW.out⟩
          case measure => simp [intOf]; omega
        · have h3' : ¬ (t.size : Int) ≤ 300 := by omega
          clear hkl
          go_wp2_with (fail)
          go_ret
          exact ⟨HW.out, Or.inr rfl⟩
      · go_wp2_with (fail)
        go_ret
        exact ⟨HW.out, Or.inl ⟨⟨h2, fun j h => HA.out j h (by omega)⟩, rfl⟩⟩
  · have h2' : ¬ (L.length : Int) ≤ 200 := by omega
    go_enter Try.func15, Try.ntmps15
    go_wp2_with (fail)
    go_ret
    exact ⟨Drw.refl w, Or.inr rfl⟩

theorem strs_lit {w : World} {B : Nat} {arr : Array Value} {T : TypeId} {fr : Nat × Nat} {L : List (List UInt8)} (h : w.heap[B]? = some (.cells arr T fr)) (harr : arr.toList = L.map (fun l => Value.string ⟨l.toArray⟩)) : StrsAt w (some ⟨B, 0, none⟩) L := by
  intro i hi
  refine ⟨_, rfl, ?_⟩
  have e : (⟨B, 0, none⟩ : Addr).add i = ⟨B, i, none⟩ := by cases i <;> simp [Addr.add]
  rw [e]
  have hg : arr.toList[i]? = some (.string ⟨L[i].toArray⟩) := by rw [harr]; simp [hi]
  simp only [World.cell?, h]
  simpa using hg
theorem nums_lit {w : World} {B : Nat} {arr : Array Value} {T : TypeId} {fr : Nat × Nat} {L : List Nat} (h : w.heap[B]? = some (.cells arr T fr)) (harr : arr.toList = L.map (fun n : Nat => Value.int .i64 (n : Int))) : NumsAt w (some ⟨B, 0, none⟩) L := by
  intro i hi
  refine ⟨_, rfl, ?_⟩
  have e : (⟨B, 0, none⟩ : Addr).add i = ⟨B, i, none⟩ := by cases i <;> simp [Addr.add]
  rw [e]
  have hg : arr.toList[i]? = some (.int .i64 (L[i] : Int)) := by rw [harr]; simp [hi]
  simp only [World.cell?, h]
  simpa using hg
theorem build_at (p : Option Addr) (n cap : Nat) (L : List (List UInt8)) (w : World) (h : StrsAt w p L) (hL : L.length ≤ 100000) (hs : strSmall maxLen L) (hn : n = L.length) :
    Calls Try.prog 16 #[.slice p n cap] w fun e w' => e = .returned (.string ⟨(buildF L).toArray⟩) ∧ Bel w w' := by subst hn; exact build_any p cap L w h hL hs
theorem small_one : strSmall maxLen [[97]] := by
  intro i hi
  obtain rfl : i = 0 := by simpa using hi
  show 1 ≤ maxLen
  unfold maxLen; omega
theorem may_none (key : List UInt8) : mayF [] key = false := rfl
theorem small_97 : (⟨#[97]⟩ : ByteArray).size ≤ maxLen := by show 1 ≤ _; unfold maxLen; omega
theorem may_at (f key : ByteArray) (b : Bool) (w : World) (hf : f.size ≤ 1000000) (hk : key.size ≤ maxLen) (h : mayF f.data.toList key.data.toList = b) :
    Calls Try.prog 20 #[.string f, .string key] w fun e w' => e = .returned (.bool b) ∧ Bel w w' := by subst h; exact may_any f key w hf hk
theorem full_at (f : ByteArray) (a b : Int) (w : World) (hf : f.size ≤ 1000000) (ha : ((cntL f.data.toList : Nat) : Int) = a) (hb : ((8 * f.size : Nat) : Int) = b) :
    Calls Try.prog 17 #[.string f] w fun e w' => e = .returned (.tuple #[.int .i64 a, .int .i64 b]) ∧ Drw w w' := by
  subst ha hb; exact full_any f w hf
theorem places_at (s : ByteArray) (n : Int) (m : Nat) (L : List Nat) (w : World) (hs : s.size ≤ maxLen) (hn : -9223372036854775808 ≤ n ∧ n ≤ 9223372036854775807) (hL : placesL (hashN s.data.toList) n.toNat = L) (hm : m = L.length) :
    Calls Try.prog 13 #[.string s, .int .i64 n] w fun e w' => ∃ p cap, e = .returned (.slice p m cap) ∧ NumsAt w' p L ∧ (∀ a, p = some a → w.heap.size ≤ a.block) ∧ Bel w w' := by
  subst hL hm; exact places_any s n w hs hn
theorem same_at (p q : Option Addr) (n m cap cap' : Nat) (L : List Nat) (w : World) (h : NumsAt w p L) (h' : NumsAt w q L) (hL : L.length ≤ 1000000) (hn : n = L.length) (hm : m = L.length) :
    Calls Try.prog 12 #[.slice p n cap, .slice q m cap'] w fun e w' => e = .returned (.bool true) ∧ Drw w w' := by
  subst hn hm; exact same_any p q cap cap' L w h h' hL
theorem size_mk (l : List UInt8) : (⟨l.toArray⟩ : ByteArray).size = l.length := by show l.toArray.size = _; rw [List.size_toArray]

set_option maxHeartbeats 4000000 in
set_option maxRecDepth 20000 in
theorem shown_any (w : World) : Calls Try.prog 9 #[] w fun e w' => e = .returned (.bool true) ∧ Bel w w' := by
  have HS := Lib.hid (strs_lit (L := [[97]]) (heap_alloc_new w (.cells #[.string ⟨#[97]⟩] 9)) rfl)
  have HB := Lib.hid ((Bel.refl w).alloc (.cells #[.string ⟨#[97]⟩] 9))
  have hne : ([[97]] : List (List UInt8)) ≠ [] := by simp
  have hbl := build_len hne
  obtain ⟨f, hf⟩ : ∃ f : ByteArray, f = ⟨(buildF [[97]]).toArray⟩ := ⟨_, rfl⟩
  have hfs : f.size = 8 := by rw [hf, size_mk, hbl]; rfl
  have HM := Lib.hid (show mayF f.data.toList (⟨#[97]⟩ : ByteArray).data.toList = true by
    have e : f.data.toList = buildF [[97]] := by rw [hf]
    have e2 : (⟨#[97]⟩ : ByteArray).data.toList = [97] := rfl
    rw [e, e2]; exact may_build (List.mem_singleton.2 rfl))
  have HF := Lib.hid hf
  clear hne hbl hf
  go_enter Try.func9, Try.ntmps9
  go_wp2_with (fail)
  refine (build_at _ 1 1 [[97]] _ HS.out (by decide) small_one rfl).mono ?_
  rw [← HF.out]
  rintro e w1 ⟨rfl, hb⟩
  replace HB := Lib.hid (HB.out.trans hb); clear hb
  go_wp2_with (fail)
  refine (full_at _ 3 8 _ (by decide) (by decide +kernel) rfl).mono ?_
  rintro e w2 ⟨rfl, hb⟩
  replace HB := Lib.hid (HB.out.trans hb.bel); clear hb
  go_wp2_with (fail)
  refine (build_at none 0 0 [] _ (fun i hi => by simp at hi) (by decide) (by intro i hi; simp at hi) rfl).mono ?_
  rintro e w3 ⟨rfl, hb⟩
  replace HB := Lib.hid (HB.out.trans hb); clear hb
  have hf8 : ((f.size : Int) == 8) = true := by rw [hfs]; rfl
  go_wp2_with (fail)
  refine (may_at f _ true _ (by omega) small_97 HM.out).mono ?_
  rintro e w4 ⟨rfl, hb⟩
  replace HB := Lib.hid (HB.out.trans hb); clear hb
  go_wp2_with (fail)
  refine (may_at _ _ false _ (by decide) small_97 (may_none _)).mono ?_
  rintro e w5 ⟨rfl, hb⟩
  replace HB := Lib.hid (HB.out.trans hb); clear hb
  go_wp2_with (fail)
  refine (places_at _ 1 4 [0, 0, 0, 0] _ small_97 (by decide) (by simp [placesL, placeN, Nat.mod_one]) rfl).mono ?_
  rintro e w6 ⟨p, cap, rfl, hat, -, hb⟩
  replace HB := Lib.hid (HB.out.trans hb); clear hb
  have HAT := Lib.hid (hat.bel ((Bel.refl w6).alloc (.cells #[.int .i64 0, .int .i64 0, .int .i64 0, .int .i64 0] 3)))
  have HL := Lib.hid (nums_lit (L := [0, 0, 0, 0]) (heap_alloc_new w6 (.cells #[.int .i64 0, .int .i64 0, .int .i64 0, .int .i64 0] 3)) rfl)
  have hb6 := (Bel.refl w6).alloc (.cells #[.int .i64 0, .int .i64 0, .int .i64 0, .int .i64 0] 3)
  replace HB := Lib.hid (HB.out.trans hb6)
  clear hat hb6
  go_wp2_with (fail)
  refine (same_at p _ 4 4 cap 4 [0, 0, 0, 0] _ HAT.out HL.out (by decide) rfl rfl).mono ?_
  rintro e w7 ⟨rfl, hb⟩
  replace HB := Lib.hid (HB.out.trans hb.bel); clear hb
  go_wp2_with (fail)
  refine (places_at _ 0 0 [] _ small_97 (by decide) (by simp [placesL]) rfl).mono ?_
  rintro e w8 ⟨p2, cap2, rfl, -, -, hb⟩
  replace HB := Lib.hid (HB.out.trans hb); clear hb
  go_wp2_with (fail)
  go_ret
  exact ⟨rfl, HB.out⟩
end Go.Proofs.Ytaabaphpllnieaa
