/- moultlaw6.FilePlays. -/
import Derived.Test.YtedopiojidaeiaaFAlike
import Derived.Test.YtedopiojidaeiaaOwn
set_option linter.unusedSimpArgs false
set_option linter.unusedVariables false
namespace Go.Proofs.Ytedopiojidaeiaa
open Go.RowKit Go.Deep Go.Maps

section
variable {w₀ x : World} {b r : Nat} {M M' : RS} {R : List Nat}
theorem tw_begin {w w1 w2 : World} (room : Int) (hr : 0 ≤ room ∧ room ≤ 10000000) (hB : Bel w w1) {b r : Nat} (hb : b = w1.heap.size) (h1 : ProgAt w1.heap.size w2 b (newS room) [b])
    (hB2 : Bel w1 w2) {w3 : World} (hrr : r = w2.heap.size) (h2 : RefP w2.heap.size w3 r (newS room) [r]) (hB3 : Bel w2 w3) : Tw w w3 b r (newS room) (newS room) [] := by
  refine ⟨⟨[b], [r], prog_low (h1.bel hB3) hB.size, h2.down (Nat.le_trans hB.size hB2.size), ?_, fun k hk => by cases hk⟩, hB.trans (hB2.trans hB3), new_ok room hr, new_ok room hr⟩
  intro k hk hm
  rw [List.mem_singleton] at hk hm
  have := (h1.within b (by simp)).2
  omega
theorem tw_does (h : Tw w₀ x b r M M' R) {p : Option Addr} {L : List AV} (hA : ActsAt w₀ p L) {k : Nat} (hk : k < L.length) (hs : AV.small L[k] = true) :
    Calls Try.prog 11 #[.pointer (some ⟨b, 0, none⟩), .agg #[.int .i64 L[k].op, .int .i64 L[k].n, .string L[k].name, .string L[k].to, .string L[k].data, .slice L[k].left.p L[k].left.L.length L[k].left.cap, .slice L[k].spoil.p L[k].spoil.L.length L[k].spoil.cap]] x fun e y =>
      e = .returned (.tuple #[.string ⟨(doS L[k] M).1.1.toArray⟩, .int .i64 (doS L[k] M).1.2]) ∧ Tw w₀ y b r (doS L[k] M).2 M' R ∧ KeepR R x y := by
  obtain ⟨B, O, sp, hp, hc, ho⟩ := hA k hk
  have ho' : AV.ok x L[k] := ⟨ho.op, ho.n, ho.name, ho.to, ho.data, ho.left.bel h.low, ho.spoil.bel h.low⟩
  have hi1 := ints_low ho.left
  have hi2 := ints_low ho.spoil
  exact h.prog (Bel.refl x) (do_ok h.good ho) fun F hF => does_any _ x b M F L[k] hF h.good ho' hs ⟨fun d h4 h5 hm => by
    have := hi1 d h4 h5; have := (hF.within _ hm).1; omega, fun d h4 h5 hm => by
    have := hi2 d h4 h5; have := (hF.within _ hm).1; omega⟩
theorem tw_model (h : Tw w₀ x b r M M' R) {p : Option Addr} {L : List AV} (hA : ActsAt w₀ p L) {k : Nat} (hk : k < L.length) (hs : AV.small L[k] = true) :
    Calls Try.prog 12 #[.pointer (some ⟨r, 0, none⟩), .agg #[.int .i64 L[k].op, .int .i64 L[k].n, .string L[k].name, .string L[k].to, .string L[k].data, .slice L[k].left.p L[k].left.L.length L[k].left.cap, .slice L[k].spoil.p L[k].spoil.L.length L[k].spoil.cap]] x fun e y =>
      e = .returned (.tuple #[.string ⟨(doS L[k] M').1.1.toArray⟩, .int .i64 (doS L[k] M').1.2]) ∧ Tw w₀ y b r M (doS L[k] M').2 R ∧ KeepR R x y := by
  obtain ⟨B, O, sp, hp, hc, ho⟩ := hA k hk
  have ho' : AV.ok x L[k] := ⟨ho.op, ho.n, ho.name, ho.to, ho.data, ho.left.bel h.low, ho.spoil.bel h.low⟩
  have hi1 := ints_low ho.left
  have hi2 := ints_low ho.spoil
  exact h.ref (Bel.refl x) (do_ok h.good' ho) fun G hG => model_any _ x r M' G L[k] hG h.good' ho' hs ⟨fun d h4 h5 hm => by
    have := hi1 d h4 h5
    obtain ⟨v, -, -, -, g4⟩ := hG
    have := (g4 _ hm).1; omega, fun d h4 h5 hm => by
    have := hi2 d h4 h5
    obtain ⟨v, -, -, -, g4⟩ := hG
    have := (g4 _ hm).1; omega⟩
theorem tw_add (h : Tw w₀ x b r M M' R) (s u : ByteArray) (hs : s.size ≤ 1000000) (hu : u.size ≤ 1000000) :
    Calls Try.prog 9 #[.pointer (some ⟨b, 0, none⟩), .string s, .string u] x fun e y => e = .returned (.int .i64 (addS s.data.toList u.data.toList M).1) ∧ Tw w₀ y b r (addS s.data.toList u.data.toList M).2 M' R ∧ KeepR R x y :=
  h.prog (Bel.refl x) (add_ok h.good _ _) fun F hF => padd_any _ x b M F s u hF hs hu h.good.srt (good_len h.good) (good_bytes h.good) h.good.room
theorem tw_radd (h : Tw w₀ x b r M M' R) (s u : ByteArray) (hs : s.size ≤ 1000000) (hu : u.size ≤ 1000000) :
    Calls Try.prog 10 #[.pointer (some ⟨r, 0, none⟩), .string s, .string u] x fun e y => e = .returned (.int .i64 (addS s.data.toList u.data.toList M').1) ∧ Tw w₀ y b r M (addS s.data.toList u.data.toList M').2 R ∧ KeepR R x y :=
  h.ref (Bel.refl x) (add_ok h.good' _ _) fun G hG => radd_any _ x r M' G s u hs hu hG h.good'
end
theorem conv_two (W : World) (u v : Int) (hu : 0 ≤ u ∧ u < 256) (hv : 0 ≤ v ∧ v < 256) :
    (convert 33 9 (.slice (some ⟨W.heap.size, 0, none⟩) 2 2)).run Try.prog (W.alloc (.cells #[.int .u8 u, .int .u8 v] 5)) =
      .ok (.string ⟨#[UInt8.ofNat u.toNat, UInt8.ofNat v.toNat]⟩) (W.alloc (.cells #[.int .u8 u, .int .u8 v] 5)) := by
  have h := own_new 0 W #[.int .u8 u, .int .u8 v] [UInt8.ofNat u.toNat, UInt8.ofNat v.toNat] (by
    simp only [Lib.byteCells, List.map_cons, List.map_nil, UInt8.toNat_ofNat', List.cons.injEq, Value.int.injEq, true_and, and_true]
    constructor <;> omega) (Nat.zero_le _) (by simp)
  exact own_string h
theorem conv_two' (W : World) (u v : Int) (hu : 0 ≤ u ∧ u < 256) (hv : 0 ≤ v ∧ v < 256) :
    ∃ t : ByteArray, (convert 33 9 (.slice (some ⟨W.heap.size, 0, none⟩) 2 2)).run Try.prog (W.alloc (.cells #[.int .u8 u, .int .u8 v] 5)) =
      .ok (.string t) (W.alloc (.cells #[.int .u8 u, .int .u8 v] 5)) ∧ t.size = 2 := ⟨_, conv_two W u v hu hv, rfl⟩
theorem size_m {t : ByteArray} (h : t.size = 2) : ((⟨#[109]⟩ : ByteArray) ++ t).size ≤ 1000000 := by
  rw [ByteArray.size_append, h]; decide
def PlRel (w₀ : World) (b r : Nat) (n : Nat) (i : Value) (x : World) : Prop := ∃ (k : Nat) (M : RS), i = .int .i64 k ∧ k ≤ n ∧ Tw w₀ x b r M M []

set_option maxHeartbeats 4000000 in
set_option maxRecDepth 20000 in
theorem law_plays_any (w : World) (room : Int) (p : Option Addr) (cap : Nat) (L : List AV) (many : Int) (h : ActsAt w p L) (hroom : -9223372036854775808 ≤ room ∧ room ≤ 9223372036854775807) (hL : L.length ≤ maxLen) (hmany : -9223372036854775808 ≤ many ∧ many ≤ 9223372036854775807) :
    Calls Try.prog 3 #[.int .i64 room, .slice p L.length cap, .int .i64 many] w fun e w' => e = .returned (.bool true) ∧ Bel w w' := by
  have H := Lib.hid h; clear h
  have hLL := Lib.hid hL; clear hL
  have HMN := Lib.hid (show in64 many from hmany)
  cases hsm : smallB L with
  | false =>
    have HS := Lib.hid hsm; clear hsm
    go_enter Try.func3, Try.ntmps3
    go_wp2_with (fail)
    refine (shown_any w).mono ?_
    rintro e w1 ⟨rfl, h1⟩
    have H1 := Lib.hid h1; clear h1
    go_wp2_with (fail)
    refine (small_any w1 p cap L (H.out.bel H1.out) hLL.out).mono ?_
    rintro e w2 ⟨rfl, h2⟩
    rw [HS.out]
    have H2 := Lib.hid (H1.out.trans h2.bel); clear h2
    go_wp2_with (fail)
    go_ret
    exact ⟨rfl, H2.out⟩
  | true =>
  have HS := Lib.hid hsm; clear hsm
  have hl := small_len HS.out
  by_cases hin : 0 ≤ room ∧ room ≤ 10000000
  · have HIN := Lib.hid hin; clear hin
    go_enter Try.func3, Try.ntmps3
    go_wp2_with (fail)
    refine (shown_any w).mono ?_
    rintro e w1 ⟨rfl, h1⟩
    have H1 := Lib.hid h1; clear h1
    go_wp2_with (fail)
    refine (small_any w1 p cap L (H.out.bel H1.out) hLL.out).mono ?_
    rintro e w2 ⟨rfl, h2⟩
    rw [HS.out]
    have H2 := Lib.hid (H1.out.trans h2.bel); clear h2
    go_wp2_with (fail)
    refine (pnew_any room w2 HIN.out).mono ?_
    rintro e w3 ⟨rfl, h3, hb3⟩
    obtain ⟨b, hb⟩ : ∃ b, b = w2.heap.size := ⟨_, rfl⟩
    have HB := Lib.hid hb
    rw [← hb] at h3 ⊢
    clear hb
    rw [HB.out] at h3
    have H3 := Lib.hid h3
    have HB3 := Lib.hid hb3
    clear h3 hb3
    go_wp2_with (fail)
    refine (rnew_ref room w3 HIN.out).mono ?_
    rintro e w4 ⟨rfl, h4, hb4⟩
    obtain ⟨r, hr⟩ : ∃ r, r = w3.heap.size := ⟨_, rfl⟩
    have HR := Lib.hid hr
    have H4 := Lib.hid (show Tw w w4 b r (newS room) (newS room) [] from tw_begin room HIN.out H2.out HB.out (by rw [HB.out]; exact H3.out) HB3.out hr (by rw [hr]; exact h4) hb4)
    rw [← hr] at *
    clear hr h4 hb4
    go_wp2_with (fail)
    go_loopw [13] (fun i x => PlRel w b r 62 i x) (fun i _ => 62 - (intOf i).toNat)
    case atStart => exact ⟨0, _, rfl, Nat.zero_le _, H4.out⟩
    case round =>
      obtain ⟨k, M, rfl, hk, ht⟩ := hrel
      have HT := Lib.hid ht; clear ht
      have HK := Lib.hid (pickN_lt many (n := 63) (by omega))
      obtain ⟨m, hm⟩ : ∃ m, m = pickN many 63 := ⟨_, rfl⟩
      have HM := Lib.hid hm
      have hm63 := HK.out
      rw [← hm] at hm63
      clear hm
      by_cases hlt : k < m
      · go_wp2_with (first
          | (go_at_call 8; refine (pick_at _ _ 63 _ HMN.out (by omega) (by omega) rfl).mono ?_; rintro e w' ⟨rfl, rfl⟩; rw [← HM.out]; obtain ⟨nm, hcv, hnz⟩ := conv_two' w' (97 + (k : Int) % 26) (97 + (k : Int) / 26) (by omega) (by omega); have HNZ := Lib.hid hnz; have HW' := Lib.hid ((Bel.refl w').alloc (.cells #[.int .u8 (97 + (k : Int) % 26), .int .u8 (97 + (k : Int) / 26)] 5)); have HX := Lib.hid (HT.out.bel HW'.out))
          | (go_at_call 9; refine (tw_add HX.out _ ⟨#[113]⟩ (size_m HNZ.out) (by decide)).mono ?_; rintro e w5 ⟨rfl, h5, -⟩; have H5 := Lib.hid h5; clear h5)
          | (go_at_call 10; refine (tw_radd H5.out _ ⟨#[113]⟩ (size_m HNZ.out) (by decide)).mono ?_; rintro e w6 ⟨rfl, h6, -⟩; have H6 := Lib.hid h6; clear h6))
        go_roundw
        case rel => exact ⟨k + 1, _, by go_num, by omega, H6.out⟩
        case measure => simp [intOf]; omega
      · go_wp2_with (first
          | (go_at_call 8; refine (pick_at _ _ 63 _ HMN.out (by omega) (by omega) rfl).mono ?_; rintro e w' ⟨rfl, rfl⟩; rw [← HM.out]))
        have HT2 := HT
        clear HT HM HK hm63 hlt hk H4
        go_loopw [15] (fun i x => PlRel w b r L.length i x) (fun i _ => L.length - (intOf i).toNat)
        case atStart => exact ⟨0, _, rfl, Nat.zero_le _, HT2.out⟩
        case round =>
          obtain ⟨k2, M2, rfl, hk2, ht⟩ := hrel
          have HT := Lib.hid ht; clear ht HT2
          by_cases hlt2 : k2 < L.length
          · obtain ⟨a, B, O, sp, rfl, hp, c0, c1, c2, c3, c4, c5, c6⟩ := act_at H.out HT.out.low hlt2
            have HC := Lib.hid (fun x (hx : Tw w x b r M2 M2 []) => tw_does hx H.out hlt2 (small_get HS.out hlt2))
            have HC' := Lib.hid (fun x M1 (hx : Tw w x b r M1 M2 []) => tw_model hx H.out hlt2 (small_get HS.out hlt2))
            have HA := Lib.hid (fun x (hx : Bel w x) => act_at H.out hx hlt2)
            obtain ⟨y, hy⟩ : ∃ y, y = L[k2] := ⟨_, rfl⟩
            rw [← hy] at c0 c1 c2 c3 c4 c5 c6 HC HC' HA
            clear hy
            have HP := Lib.hid hp
            go_wp2_with (fail)
            refine (HC.out _ HT.out).mono ?_
            rintro e w7 ⟨rfl, h7, -⟩
            have H7 := Lib.hid h7; clear h7
            clear c0 c1 c2 c3 c4 c5 c6
            obtain ⟨a', B', O', sp', ha', hp', c0, c1, c2, c3, c4, c5, c6⟩ := HA.out _ H7.out.low
            obtain rfl : a = a' := by simpa using ha'
            rw [hp, Addr.mk.injEq] at hp'
            obtain ⟨rfl, rfl, rfl⟩ := hp'
            clear ha'
            go_wp2_with (fail)
            refine (HC'.out _ _ H7.out).mono ?_
            rintro e w8 ⟨rfl, h8, -⟩
            have H8 := Lib.hid h8; clear h8
            clear c0 c1 c2 c3 c4 c5 c6
            go_wp2_with (fail)
            go_roundw
            case rel => exact ⟨k2 + 1, _, by go_num, by omega, H8.out⟩
            case measure => simp [intOf]; omega
          · obtain rfl : k2 = L.length := by omega
            go_wp2_with (fail)
            refine (alike_any w _ b r M2 [] HT.out).mono ?_
            rintro e w9 ⟨rfl, h9⟩
            have H9 := Lib.hid (HT.out.low.trans h9); clear h9
            go_wp2_with (fail)
            go_ret
            exact ⟨rfl, H9.out⟩
  · have HB := Lib.hid hin; clear hin
    go_enter Try.func3, Try.ntmps3
    go_wp2_with (fail)
    refine (shown_any w).mono ?_
    rintro e w1 ⟨rfl, h1⟩
    have H1 := Lib.hid h1; clear h1
    go_wp2_with (fail)
    refine (small_any w1 p cap L (H.out.bel H1.out) hLL.out).mono ?_
    rintro e w2 ⟨rfl, h2⟩
    rw [HS.out]
    have H2 := Lib.hid (H1.out.trans h2.bel); clear h2
    go_wp2_with (fail)
    refine (pnew_bad room w2 HB.out hroom).mono ?_
    rintro e w3 ⟨rfl, h3⟩
    have H3 := Lib.hid (H2.out.trans h3); clear h3
    go_wp2_with (fail)
    refine (rnew_bad room w3 HB.out hroom).mono ?_
    rintro e w4 ⟨rfl, h4⟩
    have H4 := Lib.hid (H3.out.trans h4); clear h4
    go_wp2_with (fail)
    go_ret
    exact ⟨rfl, H4.out⟩
end Go.Proofs.Ytedopiojidaeiaa
