/- block.Build: pairs' encoding, or an error. -/
import Derived.Test.YtldkpomkgmilbaaBShort
import Derived.Test.YtldkpomkgmilbaaBBld
set_option linter.unusedSimpArgs false
set_option linter.unusedVariables false
namespace Go.Proofs.Ytldkpomkgmilbaa
open Go.RowKit Go.Deep

def BuildPost (L : List PB) (w : World) (e : Ending) (w' : World) : Prop := e = .returned (.tuple #[.string ⟨(buildL (prs L)).1.toArray⟩, .int .i64 (buildL (prs L)).2]) ∧ Bel w w'
def BuildRel (L : List PB) (bb : Nat) (w : World) (pv i : Value) (x : World) : Prop :=
  ∃ (k : Nat) (q : ByteArray), k ≤ L.length ∧ i = .int .i64 k ∧ pv = .string q ∧ q.data.toList = lastK [] ((prs L).take k) ∧ q.size ≤ 1000000 ∧ BldW bb (encL [] ((prs L).take k)) x ∧ (encL [] ((prs L).take k)).length ≤ 40000 ∧ Bel w x
theorem prs_take_succ (L : List PB) (k : Nat) (h : k < L.length) : (prs L).take (k + 1) = (prs L).take k ++ [L[k].pr] := by
  rw [← List.take_append_getElem (by rw [prs_len]; exact h), prs_get L k h]
theorem enc_take_succ (L : List PB) (k : Nat) (h : k < L.length) : encL [] ((prs L).take (k + 1)) = encL [] ((prs L).take k) ++ oneL (lastK [] ((prs L).take k)) L[k].pr := by
  rw [prs_take_succ L k h, enc_snoc]
theorem enc_take_le (L : List PB) (k : Nat) : (encL [] ((prs L).take k)).length ≤ (encL [] (prs L)).length := by
  have := enc_app [] ((prs L).take k) ((prs L).drop k)
  rw [List.take_append_drop] at this
  rw [this, List.length_append]; omega
theorem cell_of_block {w x : World} {X o : Nat} {v : Value} (h : x.heap[X]? = w.heap[X]?) (hc : w.cell? ⟨X, o, none⟩ = some v) : x.cell? ⟨X, o, none⟩ = some v :=
  (World.cell?_of_block h).trans hc

set_option maxHeartbeats 4000000 in
set_option maxRecDepth 20000 in
theorem build_any (p : Option Addr) (cap : Nat) (L : List PB) (w : World) (h : PairsAt w p L) (hL : L.length ≤ 1000) (hs : smallP 100000 L) :
    Calls Try.prog 11 #[.slice p L.length cap] w (BuildPost L w) := by
  have H := Lib.hid h
  have HSM := Lib.hid hs; clear hs
  go_enter Try.func11, Try.ntmps11
  go_wp2_with (fail)
  refine (areinc_any p cap L w h (by omega)).mono ?_
  rintro e w1 ⟨rfl, hw1⟩
  have HB1 := Lib.hid hw1.bel; clear hw1 h
  cases hinc : incB (prs L) with
  | false =>
    have HR := Lib.hid (show buildL (prs L) = ([], 1) by unfold buildL; rw [if_pos hinc])
    clear hinc
    go_wp2_with (fail)
    go_ret2
    exact ⟨by rw [HR.out]; rfl, HB1.out⟩
  | true =>
    have HI := Lib.hid hinc; clear hinc
    have hbb := HB1.out.size
    go_wp2_with (fail)
    go_loopw [5, 15] (fun pv i x => BuildRel L w1.heap.size w pv i x) (fun _ i _ => L.length - (intOf i).toNat)
    case atStart => exact ⟨0, ⟨#[]⟩, Nat.zero_le _, rfl, rfl, rfl, by decide, by simpa [encL] using BldW.new w1, by simp [encL], HB1.out.alloc _⟩
    case round =>
      obtain ⟨k, q, hk, rfl, rfl, hq, hqs, hbld, h4, hb⟩ := hrel
      have HQ := Lib.hid hq; clear hq
      by_cases hlt : k < L.length
      · obtain ⟨a, B, O, sp, rfl, ha, c0, c1⟩ := (H.out.bel hb) k hlt
        obtain ⟨s1, s2⟩ := HSM.out k hlt
        have hX := BldA.of hbld (.cells #[.string L[k].k, .string L[k].v] 50)
        have HB := Lib.hid hb
        have HBX := Lib.hid (hb.alloc (.cells #[.string L[k].k, .string L[k].v] 50))
        have HE := Lib.hid (enc_take_succ L k hlt)
        obtain ⟨E, hE⟩ : ∃ E, encL [] ((prs L).take k) = E := ⟨_, rfl⟩
        obtain ⟨hd, hhd⟩ : ∃ hd, headL q.data.toList L[k].pr = hd := ⟨_, rfl⟩
        obtain ⟨rs, hrs⟩ : ∃ rs, restL q.data.toList L[k].pr = rs := ⟨_, rfl⟩
        have hhl := head_le q.data.toList L[k].pr
        have hrl := rest_len q.data.toList L[k].pr
        have hkl : L[k].pr.k.length = L[k].k.size := rfl
        rw [hhd] at hhl
        rw [hrs, hkl] at hrl
        rw [hE] at hX h4 HE
        have HE2 := Lib.hid (show encL [] ((prs L).take (k + 1)) = E ++ hd ++ rs ++ L[k].v.data.toList by
          rw [HE.out, ← HQ.out, oneL, hhd, hrs]; simp only [List.append_assoc]; rfl)
        have HS := Lib.hid (fun z => shortened_any L[k] q z (by omega) (by omega) hqs)
        rw [hhd, hrs] at HS
        have HD := Lib.hid (show PR.k L[k].pr = L[k].k.data.toList from rfl)
        have d0 : (wr.alloc (.cells #[.string L[k].k, .string L[k].v] 50)).cell? ⟨wr.heap.size, 0, none⟩ = some (.string L[k].k) := (World.cell?_alloc_new ..).trans (by simp)
        have d1 : (wr.alloc (.cells #[.string L[k].k, .string L[k].v] 50)).cell? ⟨wr.heap.size, 1, none⟩ = some (.string L[k].v) := (World.cell?_alloc_new ..).trans (by simp)
        have hsz : wr.heap.size < (wr.alloc (.cells #[.string L[k].k, .string L[k].v] 50)).heap.size := by simp
        have h1s : w1.heap.size < wr.heap.size := hbld.lt
        clear hbld hb hE hhd hrs HE
        generalize L[k].k = kk at *
        generalize L[k].v = vv at *
        go_wp2_with (fail)
        refine (HS.out _).mono ?_
        rintro e w2 ⟨rfl, hb2⟩
        have e0 := cell_later hb2 d0
        have e1 := cell_later hb2 d1
        have HX2 := Lib.hid (hX.bel hb2)
        have HB2 := Lib.hid (HBX.out.trans hb2)
        have hsz2 := hb2.size
        generalize (wr.alloc (.cells #[.string kk, .string vv] 50)) = wx at *
        generalize wr.heap.size = X at *
        clear hb2 hX HBX
        have hXw2 : X < w2.heap.size := by omega
        have hp1 := mk_size hd
        have hp2 := mk_size rs
        have hvl : vv.data.toList.length = vv.size := rfl
        go_wp2_with (fail)
        by_cases hlong : 40000 < E.length + hd.length + rs.length + vv.size
        · have HL := Lib.hid (show buildL (prs L) = ([], 10) by
            have := enc_take_le L (k + 1)
            rw [HE2.out] at this
            simp only [List.length_append] at this
            unfold buildL; rw [if_neg (by rw [HI.out]; simp), if_pos (by omega)])
          have hl' : (40000 : Int) < (E.length : Int) + (hd.length : Int) + (rs.length : Int) + (vv.size : Int) := by omega
          go_quiet ((go_at_call 29; exact Calls.quiet_of (blen_any w1.heap.size E X _ (by first | exact HX2.out | exact HX2.out.bel ((Bel.refl _).drewN _) | exact HX2.out.bel (Bel.refl _).drew))))
          go_wp2_with (fail)
          go_ret2
          exact ⟨by rw [HL.out]; rfl, HB2.out.drewN _⟩
        · have hl' : (E.length : Int) + (hd.length : Int) + (rs.length : Int) + (vv.size : Int) ≤ (40000 : Int) := by omega
          go_quiet ((go_at_call 29; exact Calls.quiet_of (blen_any w1.heap.size E X _ (by first | exact HX2.out | exact HX2.out.bel ((Bel.refl _).drewN _) | exact HX2.out.bel (Bel.refl _).drew))))
          have e0' : (w2.drewN nq).cell? ⟨X, 0, none⟩ = some (.string kk) := e0
          have e1' : (w2.drewN nq).cell? ⟨X, 1, none⟩ = some (.string vv) := e1
          have HX3 := Lib.hid (HX2.out.bel ((Bel.refl w2).drewN nq))
          have HB3 := Lib.hid (HB2.out.drewN nq)
          have hXw3 : X < (w2.drewN nq).heap.size := hXw2
          generalize w2.drewN nq = w3 at *
          clear e0 e1 HX2 HB2 hXw2 hsz2 hsz d0 d1
          go_wp2_with (fail)
          refine (write_a w1.heap.size E ⟨hd.toArray⟩ X w3 HX3.out (by omega) hXw3).mono ?_
          rintro e w4 ⟨rfl, hA4, hb4, hX4, hz4⟩
          have HX4 := Lib.hid hA4
          have HB4 := Lib.hid (HB3.out.trans_below (Below.mono hb4 hbb))
          replace e0 := cell_of_block hX4 e0'
          replace e1 := cell_of_block hX4 e1'
          clear hA4 hb4 hX4 e0' e1'
          go_wp2_with (fail)
          refine (write_a w1.heap.size (E ++ hd) ⟨rs.toArray⟩ X w4 (by simpa using HX4.out) (by simp only [List.length_append]; omega) (by omega)).mono ?_
          rintro e w5 ⟨rfl, hA5, hb5, hX5, hz5⟩
          have HX5 := Lib.hid hA5
          have HB5 := Lib.hid (HB4.out.trans_below (Below.mono hb5 hbb))
          have f0 := cell_of_block hX5 e0
          have f1 := cell_of_block hX5 e1
          clear hA5 hb5 hX5 e0 e1
          go_wp2_with (fail)
          refine (write_a w1.heap.size (E ++ hd ++ rs) vv X w5 (by simpa using HX5.out) (by simp only [List.length_append]; omega) (by omega)).mono ?_
          rintro e w6 ⟨rfl, hA6, hb6, hX6, hz6⟩
          have HX6 := Lib.hid hA6.w
          have HB6 := Lib.hid (HB5.out.trans_below (Below.mono hb6 hbb))
          have g0 := cell_of_block hX6 f0
          clear hA6 hb6 hX6 f0 f1
          go_wp2_with (fail)
          go_roundw
          case rel =>
            refine ⟨k + 1, kk, hlt, by go_num, rfl, ?_, by omega, ?_, ?_, HB6.out⟩
            · rw [prs_take_succ L k hlt, lastK_snoc, HD.out]
            · rw [HE2.out]; exact HX6.out
            · rw [HE2.out]; simp only [List.length_append]; omega
          case measure => simp [intOf]; omega
      · have hkl : k = L.length := by omega
        have HT := Lib.hid (show (prs L).take k = prs L from List.take_of_length_le (by rw [prs_len]; omega))
        rw [HT.out] at hbld h4
        have HR := Lib.hid (show buildL (prs L) = (encL [] (prs L), 0) from build_of HI.out h4)
        have HBD := Lib.hid hbld
        have HB := Lib.hid hb
        clear hbld hb h4
        go_wp2_with (fail)
        refine (bstring_any w1.heap.size _ wr HBD.out).mono ?_
        rintro e w2 ⟨rfl, hb2⟩
        have HB2 := Lib.hid (HB.out.trans_below (Below.mono hb2 hbb))
        clear hb2
        go_wp2_with (fail)
        go_ret2
        exact ⟨by rw [HR.out]; rfl, HB2.out⟩
end Go.Proofs.Ytldkpomkgmilbaa
