/- filter.Places and moultref9.Places. -/
import Derived.Test.YtaabaphpllnieaaIHash
set_option linter.unusedSimpArgs false
set_option linter.unusedVariables false
namespace Go.Proofs.Ytaabaphpllnieaa
open Go.RowKit Go.Deep

/-- What Places answers: the places, in a slice that the call made. -/
def PlacesPost (s : List UInt8) (bits : Nat) (w : World) (e : Ending) (w' : World) : Prop :=
  ∃ p cap, e = .returned (.slice p (placesL (hashN s) bits).length cap) ∧ NumsAt w' p (placesL (hashN s) bits) ∧ (∀ a, p = some a → w.heap.size ≤ a.block) ∧ Bel w w'
theorem or_one (h : Nat) (hh : h < 18446744073709551616) : bits .or .u64 ((h : Int) / 4294967296) 1 = (stepN h : Nat) := by
  have e : (h : Int) / 4294967296 = ((h / 4294967296 : Nat) : Int) := by omega
  rw [e, show (1 : Int) = ((1 : Nat) : Int) from rfl, u64_or_nat _ 1 (by omega) (by omega)]
  congr 1
  unfold stepN
  generalize h / 4294967296 = c
  split
  · rename_i h0
    have := nat_join 1 c 1 (by omega) (by decide)
    omega
  · rename_i h0
    have e2 : c = (c - 1) ||| 1 := by rw [nat_join 1 (c - 1) 1 (by omega) (by decide)]; omega
    rw [e2, Nat.or_assoc, Nat.or_self, ← e2]
theorem low_walk (h : Nat) : IntKind.u32.wrap (h : Int) = ((h % 4294967296 : Nat) : Int) := by rw [IntKind.wrap_u32']; omega

theorem place_walk {h k m : Nat} (hh : h < 18446744073709551616) (hk : k < 4) (hm : 1 ≤ m) (hm2 : m ≤ 9223372036854775807) :
    wrap64 ((IntKind.u64.wrap ((h : Int) % 4294967296 + IntKind.u64.wrap ((k : Int) * (stepN h : Nat)))).tmod (m : Int)) = (placeN h m k : Nat) := by
  have hs := step_le h hh
  have hks : k * stepN h ≤ 3 * 4294967296 := Nat.mul_le_mul (by omega) hs
  have e1 : (k : Int) * (stepN h : Nat) = ((k * stepN h : Nat) : Int) := by simp
  unfold placeN
  rw [e1]
  generalize k * stepN h = z at hks
  have e2 : IntKind.u64.wrap ((h : Int) % 4294967296 + IntKind.u64.wrap (z : Int)) = ((h % 4294967296 + z : Nat) : Int) := by
    rw [wrap9_u64, wrap9_u64]; omega
  rw [e2]
  generalize h % 4294967296 + z = q
  have e3 : ((q : Nat) : Int).tmod (m : Int) = ((q % m : Nat) : Int) := by rw [Int.tmod_eq_emod_of_nonneg (by omega)]; omega
  rw [e3]
  have : q % m < m := Nat.mod_lt _ hm
  unfold wrap64
  omega
theorem infoInt9 : (Try.prog.info? 3).map (fun i => (i.zero, i.size, i.bytes)) = some (some (.int .i64 0), 1, 8) := by kernel_rfl
def PlcRel (h n B : Nat) (w : World) (i : Value) (x : World) : Prop := ∃ k : Nat, k ≤ 4 ∧ i = .int .i64 k ∧
  x.rowIs B 3 4 (fun j => if j < k then .int .i64 (placeN h n j : Nat) else .int .i64 0) ∧ Bel w x
set_option maxHeartbeats 1000000 in
theorem places_any (s : ByteArray) (n : Int) (w : World) (hs : s.size ≤ maxLen) (hn : -9223372036854775808 ≤ n ∧ n ≤ 9223372036854775807) :
    Calls Try.prog 13 #[.string s, .int .i64 n] w (PlacesPost s.data.toList n.toNat w) := by
  unfold maxLen at hs
  by_cases h1 : n < 1
  · go_enter Try.func13, Try.ntmps13
    go_wp2_with (fail)
    go_ret
    have e : n.toNat = 0 := by omega
    rw [e]
    exact ⟨none, 0, by rw [places_zero]; rfl, fun i hi => (by rw [places_zero] at hi; simp at hi), ⟨fun a h => (by cases h), Bel.refl w⟩⟩
  · obtain ⟨m, rfl⟩ : ∃ m : Nat, n = m := ⟨n.toNat, by omega⟩
    have hm : 1 ≤ m := by omega
    have HH := Lib.hid (hash_lt s.data.toList)
    go_enter Try.func13, Try.ntmps13
    go_wp2_with (fail)
    refine (hash_any s w hs).mono ?_
    rintro e w1 ⟨rfl, hd⟩
    have HD := Lib.hid hd; clear hd
    obtain ⟨h, hh⟩ : ∃ h, h = hashN s.data.toList := ⟨_, rfl⟩
    rw [← hh] at HH ⊢
    have HE := Lib.hid hh; clear hh
    have hO := or_one h HH.out
    have hmk : (Instr.makeSlice 26 (.int .i64 4) (.int .i64 4)).run Try.prog w1 = .ok (.slice (some ⟨w1.heap.size, 0, none⟩) 4 4) (w1.alloc (.cells (madeCells #[.int .i64 0] 4) 3)) :=
      run_make_row' (P := Try.prog) 26 3 (.int .i64 0) 8 Try.underlying26 infoInt9 rfl .i64 .i64 4 (by omega) (by omega) w1
    go_wp2_with (fail)
    go_loopw [23] (fun i x => PlcRel h m w1.heap.size w i x) (fun i _ => 4 - (intOf i).toNat)
    case atStart => exact ⟨0, by omega, rfl, (World.rowIs_made w1 (.int .i64 0) 4 3).congr fun j hj => by rw [if_neg (by omega)], HD.out.bel.alloc _⟩
    case round =>
      obtain ⟨k, hk, rfl, hrow, hb⟩ := hrel
      have HR := Lib.hid hrow; clear hrow
      have HB := Lib.hid hb; clear hb
      by_cases hlt : k < 4
      · have hc := HR.out.cell (i := k) (by omega)
        have hf := HR.out.frozen k
        go_wp2_with (fail)
        go_roundw
        case rel =>
          refine ⟨k + 1, by omega, by go_num, ?_, HB.out.setCell (HD.out.bel.size) _⟩
          refine (HR.out.set k _).congr fun i hi => ?_
          by_cases e : i = k
          · subst e
            rw [if_pos rfl, if_pos (by omega), place_walk HH.out hlt hm (by omega)]
          · rw [if_neg e]
            by_cases e2 : i < k
            · rw [if_pos e2, if_pos (by omega)]
            · rw [if_neg e2, if_neg (by omega)]
        case measure => simp [intOf]; omega
      · obtain rfl : k = 4 := by omega
        go_wp2_with (fail)
        go_ret
        have hne : m ≠ 0 := by omega
        rw [PlacesPost, Int.toNat_natCast, ← HE.out]
        refine ⟨some ⟨w1.heap.size, 0, none⟩, 4, by rw [places_len hne]; rfl, fun i hi => ⟨_, rfl, ?_⟩, fun a ha => ?_, HB.out⟩
        · rw [places_len hne] at hi
          have hg := places_get (h := h) hne i hi
          have e : (⟨w1.heap.size, 0, none⟩ : Addr).add i = ⟨w1.heap.size, i, none⟩ := by cases i <;> simp [Addr.add]
          rw [List.getElem?_eq_getElem (by rw [places_len hne]; exact hi)] at hg
          rw [e, HR.out.cell hi, if_pos hi, Option.some.inj hg]
        · cases ha; exact HD.out.bel.size

def RPlcRel (h m : Nat) (w : World) (lv iv : Value) (x : World) : Prop := ∃ k : Nat, k ≤ 4 ∧ (m = 0 → k = 0) ∧ iv = .int .i64 k ∧ OwnG intEl9 w.heap.size x lv ((List.range k).map (placeN h m)) ∧ Bel w x
theorem range_snoc (f : Nat → Nat) (k : Nat) : (List.range (k + 1)).map f = (List.range k).map f ++ [f k] := by rw [List.range_succ, List.map_append]; rfl
theorem places_range {h m : Nat} (hm : m ≠ 0) : (List.range 4).map (placeN h m) = placesL h m := by unfold placesL; rw [if_neg hm]; rfl
set_option maxHeartbeats 1000000 in
theorem rplaces_any (s : ByteArray) (n : Int) (w : World) (hs : s.size ≤ maxLen) (hn : -9223372036854775808 ≤ n ∧ n ≤ 9223372036854775807) :
    Calls Try.prog 14 #[.string s, .int .i64 n] w (PlacesPost s.data.toList n.toNat w) := by
  unfold maxLen at hs
  obtain ⟨h, hh⟩ : ∃ h, h = hashN s.data.toList := ⟨_, rfl⟩
  have HH := Lib.hid (hash_lt s.data.toList)
  rw [← hh] at HH
  obtain ⟨c, hc⟩ : ∃ c : Nat, c = h / 4294967296 := ⟨_, rfl⟩
  have hcw : IntKind.u64.wrap ((h : Int) / 4294967296) = (c : Nat) := by have := HH.out; rw [wrap9_u64, hc]; omega
  by_cases h0 : c % 2 = 0
  · have ht : ((c : Int) % 2 == 0) = true := by rw [beq_iff_eq]; omega
    have hst : IntKind.u64.wrap ((c : Int) + 1) = (stepN h : Nat) := by
      have := HH.out
      rw [wrap9_u64, stepN, ← hc, if_pos h0]; omega
    clear hc h0
    go_enter Try.func14, Try.ntmps14
    go_wp2_with (fail)
    refine (rhash_any s w hs).mono ?_
    rintro e w1 ⟨rfl, hd⟩
    have HD := Lib.hid hd; clear hd
    rw [← hh]
    have HE := Lib.hid hh; clear hh
    have HN := Lib.hid hn
    go_wp2_with (fail)
    go_loopw [5, 9] (fun lv iv x => RPlcRel h n.toNat w lv iv x) (fun _ iv _ => 4 - (intOf iv).toNat)
    case atStart => exact ⟨0, by omega, fun _ => rfl, rfl, OwnG.nil _ _ _, HD.out.bel⟩
    case round =>
      obtain ⟨k, hk, hk0, rfl, hown, hb⟩ := hrel
      have HK0 := Lib.hid hk0; clear hk0
      have HB := Lib.hid hb; clear hb
      obtain ⟨lp, lcap, rfl⟩ := ownG_len hown
      have hul : ((List.range k).map (placeN h n.toNat)).length = k := by simp
      rw [hul] at hown ⊢
      have HO := Lib.hid hown; clear hown
      by_cases hlt : k < 4
      · by_cases h1 : n < 1
        · go_wp2_with (fail)
          go_ret
          have e : n.toNat = 0 := by omega
          obtain rfl := HK0.out e
          rw [PlacesPost, ← HE.out, e, places_zero]
          refine ⟨lp, lcap, rfl, fun i hi => by simp at hi, ⟨fun a ha => ?_, HB.out⟩⟩
          subst ha
          exact (HO.out.lt a.block rfl).1
        · obtain ⟨m, rfl⟩ : ∃ m : Nat, n = m := ⟨n.toNat, by omega⟩
          rw [Int.toNat_natCast] at HO
          have hm : 1 ≤ m := by omega
          have hpw := place_walk HH.out hlt hm (by omega)
          rw [Int.toNat_natCast] at hul
          have HUL := Lib.hid hul; clear hul
          go_wp2_with (at_builtin; refine stop_here ?_)
          refine go_on ?_
          refine append_glit intOk9 rfl _ _ rfl rfl HO.out _ _ _ [placeN h m k] rfl rfl rfl (by rw [HUL.out]; simp [maxLen]; omega) (by rw [HUL.out]; simp; omega) HB.out.size (Or.inl rfl) ?_
          intro v3 w3 hown3 hbel3 hZ3
          have HV3 := Lib.hid hown3
          have HB3 := Lib.hid (HB.out.trans_below hbel3)
          clear hown3 hbel3 hpw
          go_wp2_with (fail)
          go_roundw
          case rel => exact ⟨k + 1, by omega, by omega, by go_num, by rw [Int.toNat_natCast, range_snoc]; exact HV3.out, HB3.out⟩
          case measure => simp [intOf]; omega
      · obtain rfl : k = 4 := by omega
        go_wp2_with (fail)
        go_ret
        have hne : n.toNat ≠ 0 := fun e => by have := HK0.out e; omega
        rw [PlacesPost, ← HE.out, places_len hne]
        obtain ⟨p, cap, hv, hat⟩ := ownG_nums HO.out
        rw [places_range hne] at hv hat
        simp only [Value.slice.injEq] at hv
        obtain ⟨rfl, -, rfl⟩ := hv
        exact ⟨lp, lcap, rfl, hat, fun a ha => (by subst ha; exact (HO.out.lt a.block rfl).1), HB.out⟩
  · obtain rfl : c = stepN h := by rw [stepN, ← hc, if_neg h0]
    have ht : (((stepN h : Nat) : Int) % 2 == 0) = false := by rw [beq_eq_false_iff_ne]; omega
    clear hc h0
    go_enter Try.func14, Try.ntmps14
    go_wp2_with (fail)
    refine (rhash_any s w hs).mono ?_
    rintro e w1 ⟨rfl, hd⟩
    have HD := Lib.hid hd; clear hd
    rw [← hh]
    have HE := Lib.hid hh; clear hh
    have HN := Lib.hid hn
    go_wp2_with (fail)
    go_loopw [5, 9] (fun lv iv x => RPlcRel h n.toNat w lv iv x) (fun _ iv _ => 4 - (intOf iv).toNat)
    case atStart => exact ⟨0, by omega, fun _ => rfl, rfl, OwnG.nil _ _ _, HD.out.bel⟩
    case round =>
      obtain ⟨k, hk, hk0, rfl, hown, hb⟩ := hrel
      have HK0 := Lib.hid hk0; clear hk0
      have HB := Lib.hid hb; clear hb
      obtain ⟨lp, lcap, rfl⟩ := ownG_len hown
      have hul : ((List.range k).map (placeN h n.toNat)).length = k := by simp
      rw [hul] at hown ⊢
      have HO := Lib.hid hown; clear hown
      by_cases hlt : k < 4
      · by_cases h1 : n < 1
        · go_wp2_with (fail)
          go_ret
          have e : n.toNat = 0 := by omega
          obtain rfl := HK0.out e
          rw [PlacesPost, ← HE.out, e, places_zero]
          refine ⟨lp, lcap, rfl, fun i hi => by simp at hi, ⟨fun a ha => ?_, HB.out⟩⟩
          subst ha
          exact (HO.out.lt a.block rfl).1
        · obtain ⟨m, rfl⟩ : ∃ m : Nat, n = m := ⟨n.toNat, by omega⟩
          rw [Int.toNat_natCast] at HO
          have hm : 1 ≤ m := by omega
          have hpw := place_walk HH.out hlt hm (by omega)
          rw [Int.toNat_natCast] at hul
          have HUL := Lib.hid hul; clear hul
          go_wp2_with (at_builtin; refine stop_here ?_)
          refine go_on ?_
          refine append_glit intOk9 rfl _ _ rfl rfl HO.out _ _ _ [placeN h m k] rfl rfl rfl (by rw [HUL.out]; simp [maxLen]; omega) (by rw [HUL.out]; simp; omega) HB.out.size (Or.inl rfl) ?_
          intro v3 w3 hown3 hbel3 hZ3
          have HV3 := Lib.hid hown3
          have HB3 := Lib.hid (HB.out.trans_below hbel3)
          clear hown3 hbel3 hpw
          go_wp2_with (fail)
          go_roundw
          case rel => exact ⟨k + 1, by omega, by omega, by go_num, by rw [Int.toNat_natCast, range_snoc]; exact HV3.out, HB3.out⟩
          case measure => simp [intOf]; omega
      · obtain rfl : k = 4 := by omega
        go_wp2_with (fail)
        go_ret
        have hne : n.toNat ≠ 0 := fun e => by have := HK0.out e; omega
        rw [PlacesPost, ← HE.out, places_len hne]
        obtain ⟨p, cap, hv, hat⟩ := ownG_nums HO.out
        rw [places_range hne] at hv hat
        simp only [Value.slice.injEq] at hv
        obtain ⟨rfl, -, rfl⟩ := hv
        exact ⟨lp, lcap, rfl, hat, fun a ha => (by subst ha; exact (HO.out.lt a.block rfl).1), HB.out⟩
end Go.Proofs.Ytaabaphpllnieaa
