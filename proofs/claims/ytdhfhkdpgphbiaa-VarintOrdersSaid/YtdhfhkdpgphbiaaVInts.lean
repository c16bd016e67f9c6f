/- varint.Ints, moultref3.Ints, moultlaw3.same: ints of a slice that came in or that a call has made. -/
import Derived.Test.YtdhfhkdpgphbiaaVShown
import Derived.Test.YtdhfhkdpgphbiaaVBld
import Derived.Test.YtdhfhkdpgphbiaaOwnG
set_option linter.unusedSimpArgs false
set_option linter.unusedVariables false
namespace Go.Proofs.Ytdhfhkdpgphbiaa
open Go.RowKit Go.Deep

def intEl : El Int := ⟨3, 35, 1, fun i => [.int .i64 i]⟩
theorem intOk : ElOk intEl 8 := ⟨fun _ => rfl, fun a u hu => by simp [intEl] at hu; subst hu; rfl, by kernel_rfl, ⟨.int .i64 0, by kernel_rfl, rfl⟩, by decide⟩
/-- The slice at p holds L. -/
def IntsAt (w : World) (p : Option Addr) (L : List Int) : Prop := ∀ i (h : i < L.length), ∃ a, p = some a ∧ w.cell? (a.add i) = some (.int .i64 L[i])
theorem add_block (a : Addr) (i : Nat) : (a.add i).block = a.block := by cases i <;> simp [Addr.add]
theorem IntsAt.bel {w x : World} {p : Option Addr} {L : List Int} (h : IntsAt w p L) (hb : Bel w x) : IntsAt x p L := by
  intro i hi
  obtain ⟨a, ha, hc⟩ := h i hi
  exact ⟨a, ha, (Below.cell hb (block_lt_of_cell hc)).trans hc⟩
theorem ownG_ints {B : Nat} {w : World} {v : Value} {L : List Int} (h : OwnG intEl B w v L) : ∃ p cap, v = .slice p L.length cap ∧ IntsAt w p L := by
  by_cases hL : L = []
  · subst hL
    obtain ⟨p, cap, hv⟩ := ownG_len h
    exact ⟨p, cap, hv, fun i hi => by simp at hi⟩
  · obtain ⟨g, cap, hv, _, _, _, hc⟩ := ownG_cells intOk h hL
    refine ⟨_, cap, hv, fun i hi => ⟨_, rfl, ?_⟩⟩
    have := hc i L[i] (List.getElem?_eq_getElem hi) 0 _ rfl
    have e : (⟨g, 0, none⟩ : Addr).add i = ⟨g, i * intEl.n + 0, none⟩ := by cases i <;> simp [Addr.add, intEl]
    rw [e]; exact this

def allIn (L : List Int) : Prop := ∀ n ∈ L, -9223372036854775808 ≤ n ∧ n ≤ 9223372036854775807
theorem take_snoc {α : Type} (L : List α) (k : Nat) (h : k < L.length) : L.take (k + 1) = L.take k ++ [L[k]] := by rw [List.take_add_one, List.getElem?_eq_getElem h]; rfl

def IntsRel (L : List Int) (w : World) (i : Value) (x : World) : Prop := ∃ k : Nat, k ≤ L.length ∧ i = .int .i64 k ∧ BldW w.heap.size (intsL (L.take k)) x ∧ Bel w x

set_option maxHeartbeats 2000000 in
theorem ints_any (p : Option Addr) (cap : Nat) (L : List Int) (w : World) (h : IntsAt w p L) (hL : L.length ≤ 300) (hin : allIn L) :
    Calls Try.prog 20 #[.slice p L.length cap] w fun e w' => e = .returned (.string ⟨(intsL L).toArray⟩) ∧ Bel w w' := by
  have H := Lib.hid h; clear h
  have HI := Lib.hid hin; clear hin
  go_enter Try.func20, Try.ntmps20
  go_wp2_with (fail)
  go_loopw [8] (fun i x => IntsRel L w i x) (fun i _ => L.length - (intOf i).toNat)
  case atStart => exact ⟨0, Nat.zero_le _, rfl, BldW.new w, (Bel.refl w).alloc _⟩
  case round =>
    obtain ⟨k, hk, rfl, hbl, hb⟩ := hrel
    have HL := Lib.hid hbl; clear hbl
    have HB := Lib.hid hb; clear hb
    have hlen := intsL_len (L.take k)
    rw [List.length_take] at hlen
    by_cases hlt : k < L.length
    · obtain ⟨a, rfl, hc⟩ := (H.out.bel HB.out) k hlt
      have hr := Lib.hid (HI.out L[k] (List.getElem_mem hlt))
      have HS := Lib.hid (show intsL (L.take (k + 1)) = intsL (L.take k) ++ putL (foldN L[k]) by rw [take_snoc L k hlt, intsL_snoc])
      have hf := foldN_lt L[k] hr.out
      have hz := Lib.hid (putL_len (foldN L[k]))
      have hz9 := Lib.hid (szN_le (foldN L[k]))
      go_wp2_with (fail)
      refine (fold_any L[k] _ hr.out).mono ?_
      rintro e w1 ⟨rfl, hb⟩
      replace HB := Lib.hid (HB.out.trans hb.bel)
      replace HL := Lib.hid (HL.out.bel hb.bel); clear hb
      go_wp2_with (fail)
      refine (put_any (foldN L[k]) _ hf).mono ?_
      rintro e w2 ⟨rfl, hb⟩
      replace HB := Lib.hid (HB.out.trans hb)
      replace HL := Lib.hid (HL.out.bel hb); clear hb
      go_wp2_with (fail)
      refine (write_any w.heap.size _ ⟨(putL (foldN L[k])).toArray⟩ _ HL.out ?_).mono ?_
      · have := hz.out; have := hz9.out
        show _ + (putL (foldN L[k])).toArray.size ≤ _
        simp only [List.size_toArray]; omega
      rintro e w3 ⟨rfl, hbl, hb⟩
      replace HB := Lib.hid (Below.trans HB.out hb)
      have HL3 := Lib.hid hbl
      clear hb hbl HL
      go_wp2_with (fail)
      go_roundw
      case rel => exact ⟨k + 1, hlt, by go_num, by rw [HS.out]; exact HL3.out, HB.out⟩
      case measure => simp [intOf]; omega
    · have HX := Lib.hid (show L.take k = L from List.take_of_length_le (by omega))
      go_wp2_with (fail)
      refine (bstring_any w.heap.size _ _ HL.out).mono ?_
      rintro e w3 ⟨rfl, hb⟩
      replace HB := Lib.hid (Below.trans HB.out hb); clear hb
      go_wp2_with (fail)
      go_ret
      exact ⟨ret_string (by rw [HX.out]), HB.out⟩
end Go.Proofs.Ytdhfhkdpgphbiaa
