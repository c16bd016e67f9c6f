/- moultref6's Crash. -/
import Derived.Test.YtedopiojidaeiaaFRcr
import Derived.Lib.AtoiErrMem
set_option linter.unusedSimpArgs false
set_option linter.unusedVariables false
namespace Go.Proofs.Ytedopiojidaeiaa
open Go.RowKit Go.Deep Go.Maps

def RcRel (n₀ : Nat) (w1 : World) (b : Nat) (M : RS) (v : Value) (F : List Nat) (lf sp : List Int) (k i : Value) (x : World) : Prop :=
  ∃ (j kk : Nat) (dn : List FI), i = .int .i64 j ∧ k = .int .i64 kk ∧ j ≤ M.L.length ∧ kk ≤ j ∧ crashF lf sp 0 M.L = dn ++ crashF lf sp kk (M.L.drop j) ∧ dn.length = j ∧ RefAt n₀ x b { onM M with L := dn ++ M.L.drop j } v ∧ Keep F w1 x

theorem zero_add_addr (g i : Nat) : (⟨g, 0, none⟩ : Addr).add i = ⟨g, i, none⟩ := by cases i <;> simp [Addr.add]
theorem set_mid {A B : List FI} {x y : FI} {j : Nat} (h : A.length = j) : (A ++ x :: B).set j y = A ++ y :: B := by
  subst h; simp
theorem ref_row {n₀ : Nat} {w : World} {b g n cap : Nat} {M : RS} (h : RefAt n₀ w b M (.slice (some ⟨g, 0, none⟩) n cap)) (i : Nat) (hi : i < M.L.length) (y : FI) :
    RefAt n₀ (((w.setCell ⟨g, i * 3, none⟩ (.string ⟨y.name.toArray⟩)).setCell ⟨g, i * 3 + 1, none⟩ (.string ⟨y.bytes.toArray⟩)).setCell ⟨g, i * 3 + 2, none⟩ (.int .i64 y.safe)) b { M with L := M.L.set i y } (.slice (some ⟨g, 0, none⟩) n cap) := by
  have hne : g ≠ b := h.own_ne h.own g rfl
  have hk : Keep [g] w (((w.setCell ⟨g, i * 3, none⟩ (.string ⟨y.name.toArray⟩)).setCell ⟨g, i * 3 + 1, none⟩ (.string ⟨y.bytes.toArray⟩)).setCell ⟨g, i * 3 + 2, none⟩ (.int .i64 y.safe)) :=
    (((Keep.refl _ w).setCell (p := ⟨g, i * 3, none⟩) (Or.inl (by simp)) _).setCell (p := ⟨g, i * 3 + 1, none⟩) (Or.inl (by simp)) _).setCell (p := ⟨g, i * 3 + 2, none⟩) (Or.inl (by simp)) _
  exact ⟨hk.at h.blk (by rw [List.mem_singleton]; omega), row_set h.own i hi y, h.low⟩

set_option maxHeartbeats 4000000 in
set_option maxRecDepth 20000 in
theorem rcrash_any (n₀ : Nat) (w : World) (b : Nat) (M : RS) (F : List Nat) (lf sp : SI) (h : RefP n₀ w b M F) (hM : M.ok)
    (hlf : SI.ok w lf) (hsp : SI.ok w sp) (nl : ∀ a, lf.p = some a → lf.L ≠ [] → a.block ∉ F) (ns : ∀ a, sp.p = some a → sp.L ≠ [] → a.block ∉ F) :
    Calls Try.prog 37 #[.pointer (some ⟨b, 0, none⟩), lf.val, sp.val] w fun e w' => (∃ u, e = .returned u) ∧ RefTo n₀ w w' b (crashS lf.L sp.L M) F := by
  obtain ⟨v, h, hb, hv, hF⟩ := h
  have HR := Lib.hid h
  have HM := Lib.hid hM
  have hn : n₀ ≤ w.heap.size := Nat.le_of_lt (Nat.lt_of_le_of_lt h.low h.lt)
  have HTo := Lib.hid (fun x M' v' => ref_to (x := x) (M := M') (v' := v') hb hv hF hn)
  have hbF := Lib.hid hb
  have HVF := Lib.hid hv
  have HLF := Lib.hid hlf
  have HSP := Lib.hid hsp
  have HNL := Lib.hid nl
  have HNS := Lib.hid ns
  have f2 := h.frozen 2
  have f3 := h.frozen 3
  obtain ⟨c0, c1, c2, c3⟩ := h.cells
  have hlen := hM.len
  obtain ⟨p, cap, rfl⟩ := ownG_len h.own
  clear h hM hb hv hF hlf hsp nl ns
  unfold SI.val
  go_enter Try.func37, Try.ntmps37
  go_wp2_with (fail)
  have hR1 := (HR.out.put_gone false).put_turns (-1)
  have hK1 : Keep F w ((w.setCell ⟨b, 3, none⟩ (.bool false)).setCell ⟨b, 2, none⟩ (.int .i64 (-1))) := ((Keep.refl F w).setCell (p := ⟨b, 3, none⟩) (Or.inl hbF.out) _).setCell (p := ⟨b, 2, none⟩) (Or.inl hbF.out) _
  generalize (w.setCell ⟨b, 3, none⟩ (.bool false)).setCell ⟨b, 2, none⟩ (.int .i64 (-1)) = w1 at *
  have HR1 := Lib.hid hR1
  have HK1 := Lib.hid hK1
  clear hR1 hK1 c0 c1 c2 c3 f2 f3
  go_loopw [6, 7] (fun k i x => RcRel n₀ w1 b M (.slice p M.L.length cap) F lf.L sp.L k i x) (fun _ i _ => M.L.length - (intOf i).toNat)
  case atStart => exact ⟨0, 0, [], rfl, rfl, Nat.zero_le _, Nat.le_refl _, by simp, rfl, HR1.out, Keep.refl _ _⟩
  case round =>
    obtain ⟨j, kk, dn, rfl, rfl, hj, hkj, hcr, hdl, hra, hkp⟩ := hrel
    have HCR := Lib.hid hcr
    have HDL := Lib.hid hdl
    have HRA := Lib.hid hra
    have HKP := Lib.hid hkp
    obtain ⟨c0, -, -, -⟩ := hra.cells
    have hbr := hra.lt
    clear hcr hdl hra hkp
    by_cases hlt : j < M.L.length
    · obtain ⟨y, hy⟩ : ∃ y, y = M.L[j] := ⟨_, rfl⟩
      have hdrop : M.L.drop j = y :: M.L.drop (j + 1) := by rw [hy]; exact List.drop_eq_getElem_cons hlt
      rw [hdrop] at HRA HCR
      have HE := Lib.hid (HM.out.each y (by rw [hy]; exact List.getElem_mem hlt)).2
      have hyb := bytes_mem (show y ∈ M.L by rw [hy]; exact List.getElem_mem hlt)
      have hbm := good_bytes' HM.out
      have hyj : (dn ++ y :: M.L.drop (j + 1))[j]? = some y := by rw [List.getElem?_append_right (by rw [HDL.out]; exact Nat.le_refl _), HDL.out]; simp
      obtain ⟨g, cap', hv, _, hgl, _, hcs⟩ := ownG_cells fileOk HRA.out.own (by simp)
      simp only [Value.slice.injEq] at hv
      obtain ⟨rfl, hlL, rfl⟩ := hv
      have d0 := hcs j y hyj 0 _ rfl
      have d1 := hcs j y hyj 1 _ rfl
      have d2 := hcs j y hyj 2 _ rfl
      simp only [fileEl, Nat.add_zero] at d0 d1 d2
      have hys : (⟨y.bytes.toArray⟩ : ByteArray).size = y.bytes.length := by show y.bytes.toArray.size = _; simp
      have hsb := HE.out
      clear hcs hyj hdrop hy hlL
      by_cases hsv : y.safe = y.bytes.length
      · have HSV := Lib.hid hsv
        have hz : (y.bytes.length : Int) - (y.safe : Int) = 0 := by omega
        have hwz : IntKind.i64.wrap ((y.bytes.length : Int) - (y.safe : Int)) = 0 := by rw [hz]; rfl
        clear hsv
        go_wp2_with (fail)
        go_roundw
        case rel =>
          refine ⟨j + 1, kk, dn ++ [y], by go_num, rfl, by omega, by omega, ?_, by simp [HDL.out], ?_, HKP.out.alloc _⟩
          · rw [HCR.out, crashF, if_pos HSV.out]; simp
          · simpa using HRA.out.bel ((Bel.refl wr).alloc _)
        case measure => simp [intOf]; omega
      · have HSV := Lib.hid hsv
        have htl : 0 < (y.bytes.length : Int) - (y.safe : Int) := by omega
        have hwz : IntKind.i64.wrap ((y.bytes.length : Int) - (y.safe : Int)) = (y.bytes.length : Int) - (y.safe : Int) := wrap_i64_in (by omega) (by omega)
        have hnz : (((y.bytes.length : Int) - (y.safe : Int)) == 0) = false := by rw [beq_eq_false_iff_ne]; omega
        have KW := Lib.hid (HK1.out.trans HKP.out (fun x hx => Or.inl hx))
        have hil := HLF.out.1.keep KW.out HNL.out
        have his := HSP.out.1.keep KW.out HNS.out
        have HIlf := Lib.hid (fun z (hz : Bel wr z) => hil.bel hz)
        have HIsp := Lib.hid (fun z (hz : Bel wr z) => his.bel hz)
        have hjk : kk ≤ 1000000 := by omega
        obtain ⟨q1, q2⟩ := at_in64 HLF.out.2.2 kk
        obtain ⟨t, ht⟩ : ∃ t, t = leftN (atN lf.L kk) (y.bytes.length - y.safe) := ⟨_, rfl⟩
        have hmm : max 0 (min (atN lf.L kk) ((y.bytes.length : Int) - (y.safe : Int))) = (t : Int) := by rw [ht]; unfold leftN; omega
        have htn : y.safe + t ≤ y.bytes.length := by omega
        have HT := Lib.hid ht
        clear hil his hsv ht
        go_wp2_with (fail)
        refine (rat_any _ lf.p lf.cap lf.L kk (HIlf.out _ ((Bel.refl wr).alloc _)) HLF.out.2.1 hjk).mono ?_
        rintro e w3 ⟨rfl, hd3⟩
        have HB3 := Lib.hid (((Bel.refl wr).alloc (.cells #[.string ⟨y.name.toArray⟩, .string ⟨y.bytes.toArray⟩, .int .i64 y.safe] 64)).trans hd3.bel)
        have e0 : w3.cell? ⟨wr.heap.size, 0, none⟩ = some (.string ⟨y.name.toArray⟩) := cell_later hd3.bel (by go_simp)
        have e1 : w3.cell? ⟨wr.heap.size, 1, none⟩ = some (.string ⟨y.bytes.toArray⟩) := cell_later hd3.bel (by go_simp)
        have e2 : w3.cell? ⟨wr.heap.size, 2, none⟩ = some (.int .i64 y.safe) := cell_later hd3.bel (by go_simp)
        have hz3 : wr.heap.size < w3.heap.size := by have := hd3.bel.size; simp at this; omega
        have hws : IntKind.i64.wrap ((y.safe : Int) + (t : Int)) = (y.safe : Int) + (t : Int) := wrap_i64_in (by omega) (by omega)
        have htk : ((y.safe : Int) + (t : Int)).toNat = y.safe + t := by omega
        have htl2 : (y.safe : Int) + (t : Int) ≤ (y.bytes.length : Int) := by omega
        have htp : (0 : Int) ≤ (y.safe : Int) + (t : Int) := by omega
        clear hd3
        obtain ⟨l4, hl4⟩ : ∃ l4, l4 = y.bytes.take (y.safe + t) := ⟨_, rfl⟩
        have hln : l4.length = y.safe + t := by rw [hl4, List.length_take]; omega
        have hext : (⟨y.bytes.toArray⟩ : ByteArray).extract 0 (y.safe + t) = ⟨l4.toArray⟩ := by rw [hl4]; apply ByteArray.ext; simp [ByteArray.data_extract]
        have hcv := Lib.run_convert_string_bytes (P := Try.prog) w3 9 33 5 ⟨l4.toArray⟩ (u := .string) Try.underlying9 Try.underlying33 Try.underlying5
        have hsz4 : (⟨l4.toArray⟩ : ByteArray).size = y.safe + t := by rw [← hln]; show l4.toArray.size = _; simp
        have hc4 : ∀ i (h : i < l4.length), (Lib.bytesWorld w3 5 ⟨l4.toArray⟩).cell? ⟨w3.heap.size, i, none⟩ = some (.int .u8 l4[i].toNat) := fun i h => by
          rw [Lib.bytesWorld_cell w3 5 ⟨l4.toArray⟩ i (by rw [hsz4]; omega)]
          simp [List.getD, h]
        have hb4 : Bel w3 (Lib.bytesWorld w3 5 ⟨l4.toArray⟩) := Lib.bytesWorld_below _ _ _
        have hf4 : ∀ i, i < l4.length → (Lib.bytesWorld w3 5 ⟨l4.toArray⟩).frozen? ⟨w3.heap.size, i, none⟩ = false := fun i h => by
          have h1 := Lib.bytesWorld_at_new w3 5 ⟨l4.toArray⟩
          have h2 := block_lt_of_cell (hc4 i h)
          have h3 := hc4 i h
          simp [World.cell?, h1] at h3
          obtain ⟨h3, -⟩ := Array.getElem?_eq_some_iff.1 h3
          simp [World.frozen?, h1]
          omega
        rw [hsz4] at hcv
        generalize Lib.bytesWorld w3 5 ⟨l4.toArray⟩ = w4 at hcv hc4 hb4 hf4
        generalize grownCap w3 (y.safe + t) 0 5 = C4 at hcv
        rw [← hext] at hcv
        have HC4 := Lib.hid hc4
        have HF4 := Lib.hid hf4
        have HB4 := Lib.hid (HB3.out.trans hb4)
        have HBB := Lib.hid hb4
        have HL4 := Lib.hid hl4
        clear hc4 hf4 hb4 hl4 hext
        by_cases ht0 : t = 0
        · have ht1 : ¬ 0 < (t : Int) := by omega
          have HT0 := Lib.hid ht0
          clear ht0
          go_wp2_with (fail)
          have n0 := cell_later HB4.out c0
          have n1 := cell_later HBB.out e0
          have HBN := Lib.hid HB4.out
          have HCN := Lib.hid (fun z (hz : Bel w4 z) => run_convert_bytes_back (P := Try.prog) z 33 9 5 ⟨w3.heap.size, 0, none⟩ C4 l4 Try.underlying33 Try.underlying5 Try.underlying9 (fun i hi => by rw [zero_add_addr]; exact cell_later hz (HC4.out i hi)))
          rw [hln] at HCN
          have HS := Lib.hid (show ∀ z, Bel w4 z → (z.cell? ⟨b, 0, none⟩ = some (.slice (some ⟨g, 0, none⟩) M.L.length cap) ∧ z.cell? ⟨wr.heap.size, 0, none⟩ = some (.string ⟨y.name.toArray⟩) ∧ (convert 33 9 (.slice (some ⟨w3.heap.size, 0, none⟩) (y.safe + t) C4)).run Try.prog z = .ok (.string ⟨l4.toArray⟩) z ∧ Bel w4 z) from fun z hz => ⟨cell_later hz n0, cell_later hz n1, HCN.out z hz, hz⟩)
          refine region_L 13 (S := fun z => (z.cell? ⟨b, 0, none⟩ = some (.slice (some ⟨g, 0, none⟩) M.L.length cap) ∧ z.cell? ⟨wr.heap.size, 0, none⟩ = some (.string ⟨y.name.toArray⟩) ∧ (convert 33 9 (.slice (some ⟨w3.heap.size, 0, none⟩) (y.safe + t) C4)).run Try.prog z = .ok (.string ⟨l4.toArray⟩) z ∧ Bel w4 z)) (by kernel_rfl) (HS.out _ (Bel.refl w4).drew) (fun hHeld => ?_)
          refine AnyL.take (i := 0) (oi := { dst := some 74, op := Op.move (Operand.tmp 0), type := 29, pos := "ref.go:223", after := #[], guard := none }) (v := ?_) rfl (by decide) (by kernel_rfl) (by kernel_rfl) (by kernel_rfl) (by kernel_rfl) (fun _ _ _ h => h) (Or.inl ⟨by rfl, ?_⟩) (by assumption) ?_
          rotate_left
          · (intro w hSw; (try dsimp only at hSw); first | (go_simp; done) | (go_simp; with_reducible rfl))
          try simp only [Act.put, List.setIfInBounds_toArray, List.set_cons_zero, List.set_cons_succ]
          refine AnyL.take (i := 1) (oi := { dst := some 75, op := Op.nilCheck (Operand.tmp 74), type := 0, pos := "ref.go:223", after := #[{ on := 0, ground := Ground.data }], guard := none }) (v := ?_) rfl (by decide) (by kernel_rfl) (by kernel_rfl) (by kernel_rfl) (by kernel_rfl) (fun _ _ _ h => h) (Or.inl ⟨by rfl, ?_⟩) (by assumption) ?_
          rotate_left
          · (intro w hSw; (try dsimp only at hSw); first | (go_simp; done) | (go_simp; with_reducible rfl))
          try simp only [Act.put, List.setIfInBounds_toArray, List.set_cons_zero, List.set_cons_succ]
          refine AnyL.take (i := 2) (oi := { dst := some 76, op := Op.fieldAddr 52 (Operand.tmp 75) 0, type := 0, pos := "ref.go:223", after := #[{ on := 1, ground := Ground.data }], guard := none }) (v := ?_) rfl (by decide) (by kernel_rfl) (by kernel_rfl) (by kernel_rfl) (by kernel_rfl) (fun _ _ _ h => h) (Or.inl ⟨by rfl, ?_⟩) (by assumption) ?_
          rotate_left
          · (intro w hSw; (try dsimp only at hSw); first | (go_simp; done) | (go_simp; with_reducible rfl))
          try simp only [Act.put, List.setIfInBounds_toArray, List.set_cons_zero, List.set_cons_succ]
          refine AnyL.take (i := 3) (oi := { dst := some 77, op := Op.load 50 (Operand.tmp 76), type := 50, pos := "ref.go:223", after := #[{ on := 2, ground := Ground.data }], guard := none }) (v := ?_) rfl (by decide) (by kernel_rfl) (by kernel_rfl) (by kernel_rfl) (by kernel_rfl) (fun _ _ _ h => h) (Or.inl ⟨by rfl, ?_⟩) (by assumption) ?_
          rotate_left
          · (intro w hSw; (try dsimp only at hSw); first | (go_simp; done) | (go_simp; with_reducible rfl))
          try simp only [Act.put, List.setIfInBounds_toArray, List.set_cons_zero, List.set_cons_succ]
          refine AnyL.take (i := 4) (oi := { dst := some 78, op := Op.move (Operand.tmp 7), type := 3, pos := "ref.go:223", after := #[], guard := none }) (v := ?_) rfl (by decide) (by kernel_rfl) (by kernel_rfl) (by kernel_rfl) (by kernel_rfl) (fun _ _ _ h => h) (Or.inl ⟨by rfl, ?_⟩) (by assumption) ?_
          rotate_left
          · (intro w hSw; (try dsimp only at hSw); first | (go_simp; done) | (go_simp; with_reducible rfl))
          try simp only [Act.put, List.setIfInBounds_toArray, List.set_cons_zero, List.set_cons_succ]
          refine AnyL.take (i := 5) (oi := { dst := some 79, op := Op.fieldAddr 64 (Operand.tmp 8) 0, type := 0, pos := "ref.go:223", after := #[], guard := none }) (v := ?_) rfl (by decide) (by kernel_rfl) (by kernel_rfl) (by kernel_rfl) (by kernel_rfl) (fun _ _ _ h => h) (Or.inl ⟨by rfl, ?_⟩) (by assumption) ?_
          rotate_left
          · (intro w hSw; (try dsimp only at hSw); first | (go_simp; done) | (go_simp; with_reducible rfl))
          try simp only [Act.put, List.setIfInBounds_toArray, List.set_cons_zero, List.set_cons_succ]
          refine AnyL.take (i := 6) (oi := { dst := some 80, op := Op.load 9 (Operand.tmp 79), type := 9, pos := "ref.go:223", after := #[{ on := 5, ground := Ground.data }], guard := none }) (v := ?_) rfl (by decide) (by kernel_rfl) (by kernel_rfl) (by kernel_rfl) (by kernel_rfl) (fun _ _ _ h => h) (Or.inl ⟨by rfl, ?_⟩) (by assumption) ?_
          rotate_left
          · (intro w hSw; (try dsimp only at hSw); first | (go_simp; done) | (go_simp; with_reducible rfl))
          try simp only [Act.put, List.setIfInBounds_toArray, List.set_cons_zero, List.set_cons_succ]
          refine AnyL.take (i := 7) (oi := { dst := some 81, op := Op.move (Operand.tmp 11), type := 33, pos := "ref.go:223", after := #[], guard := none }) (v := ?_) rfl (by decide) (by kernel_rfl) (by kernel_rfl) (by kernel_rfl) (by kernel_rfl) (fun _ _ _ h => h) (Or.inl ⟨by rfl, ?_⟩) (by assumption) ?_
          rotate_left
          · (intro w hSw; (try dsimp only at hSw); first | (go_simp; done) | (go_simp; with_reducible rfl))
          try simp only [Act.put, List.setIfInBounds_toArray, List.set_cons_zero, List.set_cons_succ]
          refine AnyL.take (i := 8) (oi := { dst := some 82, op := Op.convert 33 9 (Operand.tmp 81), type := 9, pos := "ref.go:223", after := #[{ on := 7, ground := Ground.data }], guard := none }) (v := ?_) rfl (by decide) (by kernel_rfl) (by kernel_rfl) (by kernel_rfl) (by kernel_rfl) (fun _ _ _ h => h) (Or.inl ⟨by rfl, ?_⟩) (by assumption) ?_
          rotate_left
          · (intro w hSw; (try dsimp only at hSw); first | (go_simp; done) | (go_simp; with_reducible rfl))
          try simp only [Act.put, List.setIfInBounds_toArray, List.set_cons_zero, List.set_cons_succ]
          refine AnyL.take (i := 9) (oi := { dst := some 83, op := Op.move (Operand.tmp 11), type := 33, pos := "ref.go:223", after := #[], guard := none }) (v := ?_) rfl (by decide) (by kernel_rfl) (by kernel_rfl) (by kernel_rfl) (by kernel_rfl) (fun _ _ _ h => h) (Or.inl ⟨by rfl, ?_⟩) (by assumption) ?_
          rotate_left
          · (intro w hSw; (try dsimp only at hSw); first | (go_simp; done) | (go_simp; with_reducible rfl))
          try simp only [Act.put, List.setIfInBounds_toArray, List.set_cons_zero, List.set_cons_succ]
          refine AnyL.take (i := 10) (oi := { dst := some 84, op := Op.call { callee := Callee.builtin Builtin.len, args := #[Operand.tmp 83], argTypes := #[33] }, type := 3, pos := "ref.go:223", after := #[{ on := 9, ground := Ground.data }], guard := none }) (v := ?_) rfl (by decide) (by kernel_rfl) (by kernel_rfl) (by kernel_rfl) (by kernel_rfl) (fun _ _ _ h => h) (Or.inl ⟨by rfl, ?_⟩) (by assumption) ?_
          rotate_left
          · (intro w hSw; (try dsimp only at hSw); first | (go_simp; done) | (go_simp; with_reducible rfl))
          try simp only [Act.put, List.setIfInBounds_toArray, List.set_cons_zero, List.set_cons_succ]
          refine AnyL.take (i := 11) (oi := { dst := some 85, op := Op.build 64 #[(0, Operand.tmp 80), (1, Operand.tmp 82), (2, Operand.tmp 84)], type := 64, pos := "ref.go:223", after := #[{ on := 6, ground := Ground.data }, { on := 8, ground := Ground.data }, { on := 10, ground := Ground.data }], guard := none }) (v := ?_) rfl (by decide) (by kernel_rfl) (by kernel_rfl) (by kernel_rfl) (by kernel_rfl) (fun _ _ _ h => h) (Or.inl ⟨by rfl, ?_⟩) (by assumption) ?_
          rotate_left
          · (intro w hSw; (try dsimp only at hSw); first | (go_simp; done) | (go_simp; with_reducible rfl))
          try simp only [Act.put, List.setIfInBounds_toArray, List.set_cons_zero, List.set_cons_succ]
          clear hHeld
          refine AnyL.ready (rs := [12]) (by kernel_rfl) (by simp) ?_
          refine (AllL.cons (o := { dst := some 86, op := Op.indexAddr 50 (Operand.tmp 77) (Operand.tmp 78), type := 0, pos := "ref.go:223", after := #[{ on := 3, ground := Ground.data }, { on := 4, ground := Ground.data }, { on := 0, ground := Ground.phase }, { on := 1, ground := Ground.phase }, { on := 2, ground := Ground.phase }, { on := 3, ground := Ground.phase }, { on := 4, ground := Ground.phase }, { on := 5, ground := Ground.phase }, { on := 6, ground := Ground.phase }, { on := 7, ground := Ground.phase }, { on := 8, ground := Ground.phase }, { on := 9, ground := Ground.phase }, { on := 10, ground := Ground.phase }, { on := 11, ground := Ground.phase }], guard := none }) rfl (fun K hK => ?_) AllL.nil)
          go_simp
          refine hK.out _ _ (fun _ => HS.out _ (Bel.refl w4).drew) ?_
          clear hK K
          try simp only [Act.put, List.setIfInBounds_toArray, List.set_cons_zero, List.set_cons_succ]
          have fr0 := row_free (HRA.out.bel HBN.out).own (j * 3)
          have fr1 := row_free (HRA.out.bel HBN.out).own (j * 3 + 1)
          have fr2 := row_free (HRA.out.bel HBN.out).own (j * 3 + 2)
          have m0 := cell_later HB4.out d0
          have m1 := cell_later HB4.out d1
          have m2 := cell_later HB4.out d2
          have hgN : g < w4.heap.size := Nat.lt_of_lt_of_le hgl HBN.out.size
          refine AnyL.ready (rs := [13]) (by kernel_rfl) (by simp) ?_
          refine (AllL.cons (o := { dst := none, op := Op.store 64 (Operand.tmp 86) (Operand.tmp 85), type := 0, pos := "ref.go:223", after := #[{ on := 12, ground := Ground.data }, { on := 11, ground := Ground.data }, { on := 0, ground := Ground.phase }, { on := 1, ground := Ground.phase }, { on := 2, ground := Ground.phase }, { on := 3, ground := Ground.phase }, { on := 4, ground := Ground.phase }, { on := 5, ground := Ground.phase }, { on := 6, ground := Ground.phase }, { on := 7, ground := Ground.phase }, { on := 8, ground := Ground.phase }, { on := 9, ground := Ground.phase }, { on := 10, ground := Ground.phase }, { on := 11, ground := Ground.phase }], guard := none }) rfl (fun K hK => ?_) AllL.nil)
          go_simp
          refine hK.out _ _ (fun h => absurd rfl h) ?_
          clear hK K fr0 fr1 fr2 m0 m1 m2
          try simp only [Act.put, List.setIfInBounds_toArray, List.set_cons_zero, List.set_cons_succ]
          refine AnyL.done (by kernel_rfl) ?_ _
          have hcrx : crX (atN lf.L kk) (atN sp.L kk) y = ⟨y.name, l4, y.safe + t⟩ := by unfold crX; rw [← HT.out, if_pos HT0.out, ← HL4.out]
          have HX := Lib.hid hcrx
          have HR4 := Lib.hid (ref_row (HRA.out.bel HB4.out) j (by simp [HDL.out]) ⟨y.name, l4, y.safe + t⟩)
          have HK4 := Lib.hid ((((HKP.out.then HB4.out).setCell (p := ⟨g, j * 3, none⟩) (Or.inl (HVF.out g rfl)) (.string ⟨y.name.toArray⟩)).setCell (p := ⟨g, j * 3 + 1, none⟩) (Or.inl (HVF.out g rfl)) (.string ⟨l4.toArray⟩)).setCell (p := ⟨g, j * 3 + 2, none⟩) (Or.inl (HVF.out g rfl)) (.int .i64 ((y.safe + t : Nat) : Int)))
          simp only [Int.natCast_add] at HR4 HK4
          clear hcrx
          go_wp2_with (fail)
          go_roundw
          case rel =>
            refine ⟨j + 1, kk + 1, dn ++ [crX (atN lf.L kk) (atN sp.L kk) y], by go_num, by go_num, by omega, by omega, ?_, by simp [HDL.out], ?_, ?_⟩
            · rw [HCR.out, crashF, if_neg HSV.out]; simp
            · have hr := HR4.out
              rw [set_mid HDL.out] at hr
              rw [HX.out, List.append_assoc]
              first | exact hr | exact hr.bel (Bel.refl _).drew
            · first | exact HK4.out | exact HK4.out.drew
          case measure => simp [intOf]; omega
        · have htp2 : 0 < (t : Int) := by omega
          have HT0 := Lib.hid ht0
          clear ht0
          obtain ⟨i, hi⟩ : ∃ i, y.safe + t = i + 1 := ⟨y.safe + t - 1, by omega⟩
          have HII := Lib.hid hi
          have hil : i < l4.length := by omega
          obtain ⟨bx, hbx⟩ : ∃ bx, bx = l4[i] := ⟨_, rfl⟩
          have n4 := HC4.out i hil
          rw [← hbx] at n4
          have f4 := HF4.out i hil
          have HBX := Lib.hid hbx
          clear hbx
          have hw3s : w3.heap.size < w4.heap.size := block_lt_of_cell n4
          have hi64 : (i : Int) ≤ 2000000000 := by omega
          have hwi : IntKind.i64.wrap (i : Int) = (i : Int) := wrap_i64_in (by omega) (by omega)
          have hi1 : (i : Int) < (i : Int) + 1 := by omega
          clear hi
          go_wp2_with (fail)
          rw [HII.out]
          obtain ⟨s1, s2⟩ := at_in64 HSP.out.2.2 kk
          have HS := Lib.hid (show ∀ z, Drw w4 z → (z.cell? ⟨w3.heap.size, i, none⟩ = some (.int .u8 bx.toNat) ∧ z.frozen? ⟨w3.heap.size, i, none⟩ = false ∧ Drw w4 z) from fun z hz => ⟨cell_later hz.bel n4, ((bcell hz.bel).2 _ _ hw3s).trans f4, hz⟩)
          refine region_L 16 (S := fun z => (z.cell? ⟨w3.heap.size, i, none⟩ = some (.int .u8 bx.toNat) ∧ z.frozen? ⟨w3.heap.size, i, none⟩ = false ∧ Drw w4 z)) (by kernel_rfl) (HS.out _ (Drw.refl w4).drew) (fun hHeld => ?_)
          refine AnyL.take (i := 0) (oi := { dst := some 58, op := Op.move (Operand.tmp 11), type := 33, pos := "ref.go:221", after := #[], guard := none }) (v := ?_) rfl (by decide) (by kernel_rfl) (by kernel_rfl) (by kernel_rfl) (by kernel_rfl) (fun _ _ _ h => h) (Or.inl ⟨by rfl, ?_⟩) (by assumption) ?_
          rotate_left
          · (intro w hSw; (try dsimp only at hSw); first | (go_simp; done) | (go_simp; with_reducible rfl))
          try simp only [Act.put, List.setIfInBounds_toArray, List.set_cons_zero, List.set_cons_succ]
          refine AnyL.take (i := 1) (oi := { dst := some 59, op := Op.move (Operand.tmp 11), type := 33, pos := "ref.go:221", after := #[], guard := none }) (v := ?_) rfl (by decide) (by kernel_rfl) (by kernel_rfl) (by kernel_rfl) (by kernel_rfl) (fun _ _ _ h => h) (Or.inl ⟨by rfl, ?_⟩) (by assumption) ?_
          rotate_left
          · (intro w hSw; (try dsimp only at hSw); first | (go_simp; done) | (go_simp; with_reducible rfl))
          try simp only [Act.put, List.setIfInBounds_toArray, List.set_cons_zero, List.set_cons_succ]
          refine AnyL.take (i := 2) (oi := { dst := some 60, op := Op.call { callee := Callee.builtin Builtin.len, args := #[Operand.tmp 59], argTypes := #[33] }, type := 3, pos := "ref.go:221", after := #[{ on := 1, ground := Ground.data }], guard := none }) (v := ?_) rfl (by decide) (by kernel_rfl) (by kernel_rfl) (by kernel_rfl) (by kernel_rfl) (fun _ _ _ h => h) (Or.inl ⟨by rfl, ?_⟩) (by assumption) ?_
          rotate_left
          · (intro w hSw; (try dsimp only at hSw); first | (go_simp; done) | (go_simp; with_reducible rfl))
          try simp only [Act.put, List.setIfInBounds_toArray, List.set_cons_zero, List.set_cons_succ]
          refine AnyL.take (i := 3) (oi := { dst := some 61, op := Op.binOp BinOp.sub 3 (Operand.tmp 60) (Operand.const (Value.int IntKind.i64 1)) 3, type := 3, pos := "ref.go:221", after := #[{ on := 2, ground := Ground.data }], guard := none }) (v := ?_) rfl (by decide) (by kernel_rfl) (by kernel_rfl) (by kernel_rfl) (by kernel_rfl) (fun _ _ _ h => h) (Or.inl ⟨by rfl, ?_⟩) (by assumption) ?_
          rotate_left
          · (intro w hSw; (try dsimp only at hSw); first | (go_simp; done) | (go_simp; with_reducible rfl))
          try simp only [Act.put, List.setIfInBounds_toArray, List.set_cons_zero, List.set_cons_succ]
          refine AnyL.take (i := 4) (oi := { dst := some 62, op := Op.move (Operand.tmp 11), type := 33, pos := "ref.go:221", after := #[], guard := none }) (v := ?_) rfl (by decide) (by kernel_rfl) (by kernel_rfl) (by kernel_rfl) (by kernel_rfl) (fun _ _ _ h => h) (Or.inl ⟨by rfl, ?_⟩) (by assumption) ?_
          rotate_left
          · (intro w hSw; (try dsimp only at hSw); first | (go_simp; done) | (go_simp; with_reducible rfl))
          try simp only [Act.put, List.setIfInBounds_toArray, List.set_cons_zero, List.set_cons_succ]
          refine AnyL.take (i := 5) (oi := { dst := some 63, op := Op.move (Operand.tmp 11), type := 33, pos := "ref.go:221", after := #[], guard := none }) (v := ?_) rfl (by decide) (by kernel_rfl) (by kernel_rfl) (by kernel_rfl) (by kernel_rfl) (fun _ _ _ h => h) (Or.inl ⟨by rfl, ?_⟩) (by assumption) ?_
          rotate_left
          · (intro w hSw; (try dsimp only at hSw); first | (go_simp; done) | (go_simp; with_reducible rfl))
          try simp only [Act.put, List.setIfInBounds_toArray, List.set_cons_zero, List.set_cons_succ]
          refine AnyL.take (i := 6) (oi := { dst := some 64, op := Op.call { callee := Callee.builtin Builtin.len, args := #[Operand.tmp 63], argTypes := #[33] }, type := 3, pos := "ref.go:221", after := #[{ on := 5, ground := Ground.data }], guard := none }) (v := ?_) rfl (by decide) (by kernel_rfl) (by kernel_rfl) (by kernel_rfl) (by kernel_rfl) (fun _ _ _ h => h) (Or.inl ⟨by rfl, ?_⟩) (by assumption) ?_
          rotate_left
          · (intro w hSw; (try dsimp only at hSw); first | (go_simp; done) | (go_simp; with_reducible rfl))
          try simp only [Act.put, List.setIfInBounds_toArray, List.set_cons_zero, List.set_cons_succ]
          refine AnyL.take (i := 7) (oi := { dst := some 65, op := Op.binOp BinOp.sub 3 (Operand.tmp 64) (Operand.const (Value.int IntKind.i64 1)) 3, type := 3, pos := "ref.go:221", after := #[{ on := 6, ground := Ground.data }], guard := none }) (v := ?_) rfl (by decide) (by kernel_rfl) (by kernel_rfl) (by kernel_rfl) (by kernel_rfl) (fun _ _ _ h => h) (Or.inl ⟨by rfl, ?_⟩) (by assumption) ?_
          rotate_left
          · (intro w hSw; (try dsimp only at hSw); first | (go_simp; done) | (go_simp; with_reducible rfl))
          try simp only [Act.put, List.setIfInBounds_toArray, List.set_cons_zero, List.set_cons_succ]
          refine AnyL.take (i := 8) (oi := { dst := some 66, op := Op.indexAddr 33 (Operand.tmp 62) (Operand.tmp 65), type := 0, pos := "ref.go:221", after := #[{ on := 4, ground := Ground.data }, { on := 7, ground := Ground.data }], guard := none }) (v := ?_) rfl (by decide) (by kernel_rfl) (by kernel_rfl) (by kernel_rfl) (by kernel_rfl) (fun _ _ _ h => h) (Or.inl ⟨by rfl, ?_⟩) (by assumption) ?_
          rotate_left
          · (intro w hSw; (try dsimp only at hSw); first | (go_simp; done) | (go_simp; with_reducible rfl))
          try simp only [Act.put, List.setIfInBounds_toArray, List.set_cons_zero, List.set_cons_succ]
          refine AnyL.take (i := 9) (oi := { dst := some 67, op := Op.load 5 (Operand.tmp 66), type := 5, pos := "ref.go:221", after := #[{ on := 8, ground := Ground.data }], guard := none }) (v := ?_) rfl (by decide) (by kernel_rfl) (by kernel_rfl) (by kernel_rfl) (by kernel_rfl) (fun _ _ _ h => h) (Or.inl ⟨by rfl, ?_⟩) (by assumption) ?_
          rotate_left
          · (intro w hSw; (try dsimp only at hSw); first | (go_simp; done) | (go_simp; with_reducible rfl))
          try simp only [Act.put, List.setIfInBounds_toArray, List.set_cons_zero, List.set_cons_succ]
          refine AnyL.take (i := 10) (oi := { dst := some 68, op := Op.move (Operand.tmp 2), type := 37, pos := "ref.go:221", after := #[], guard := none }) (v := ?_) rfl (by decide) (by kernel_rfl) (by kernel_rfl) (by kernel_rfl) (by kernel_rfl) (fun _ _ _ h => h) (Or.inl ⟨by rfl, ?_⟩) (by assumption) ?_
          rotate_left
          · (intro w hSw; (try dsimp only at hSw); first | (go_simp; done) | (go_simp; with_reducible rfl))
          try simp only [Act.put, List.setIfInBounds_toArray, List.set_cons_zero, List.set_cons_succ]
          refine AnyL.take (i := 11) (oi := { dst := some 69, op := Op.move (Operand.tmp 6), type := 3, pos := "ref.go:221", after := #[], guard := none }) (v := ?_) rfl (by decide) (by kernel_rfl) (by kernel_rfl) (by kernel_rfl) (by kernel_rfl) (fun _ _ _ h => h) (Or.inl ⟨by rfl, ?_⟩) (by assumption) ?_
          rotate_left
          · (intro w hSw; (try dsimp only at hSw); first | (go_simp; done) | (go_simp; with_reducible rfl))
          try simp only [Act.put, List.setIfInBounds_toArray, List.set_cons_zero, List.set_cons_succ]
          clear hHeld
          refine AnyL.ready (rs := [12]) (by kernel_rfl) (by simp) ?_
          refine (AllL.cons (o := { dst := some 70, op := Op.call { callee := Callee.value (Operand.func 53), args := #[Operand.tmp 68, Operand.tmp 69], argTypes := #[37, 3] }, type := 3, pos := "ref.go:221", after := #[{ on := 10, ground := Ground.data }, { on := 11, ground := Ground.data }], guard := none }) rfl (fun K hK => ?_) AllL.nil)
          go_simp
          refine (rat_any _ sp.p sp.cap sp.L kk (HIsp.out _ (HB4.out.trans (Bel.refl w4).drew)) HSP.out.2.1 hjk).mono ?_
          rintro e w6 ⟨rfl, hd6⟩
          have HD6 := Lib.hid ((Drw.refl w4).drew.trans hd6)
          clear hd6
          dsimp only
          refine hK.out _ _ (fun _ => HS.out _ HD6.out) ?_
          clear hK K
          try simp only [Act.put, List.setIfInBounds_toArray, List.set_cons_zero, List.set_cons_succ]
          obtain ⟨q, hq⟩ : ∃ q, q = atN sp.L kk := ⟨_, rfl⟩
          rw [← hq]
          have HQ := Lib.hid hq
          clear hq
          have hx : bits .xor .u8 (bx.toNat : Int) (q % 256) = ((spb bx q).toNat : Int) := by rw [← spb_bits, wrap_mod]
          have hHeld := HS.out _ HD6.out
          refine AnyL.take (i := 13) (oi := { dst := some 71, op := Op.convert 3 5 (Operand.tmp 70), type := 5, pos := "ref.go:221", after := #[{ on := 12, ground := Ground.data }], guard := none }) (v := ?_) rfl (by decide) (by kernel_rfl) (by kernel_rfl) (by kernel_rfl) (by kernel_rfl) (fun _ _ _ h => h) (Or.inl ⟨by rfl, ?_⟩) (by assumption) ?_
          rotate_left
          · (intro w hSw; (try dsimp only at hSw); first | (go_simp; done) | (go_simp; with_reducible rfl))
          try simp only [Act.put, List.setIfInBounds_toArray, List.set_cons_zero, List.set_cons_succ]
          refine AnyL.take (i := 14) (oi := { dst := some 72, op := Op.binOp BinOp.xor 5 (Operand.tmp 67) (Operand.tmp 71) 5, type := 5, pos := "ref.go:221", after := #[{ on := 9, ground := Ground.data }, { on := 13, ground := Ground.data }], guard := none }) (v := ?_) rfl (by decide) (by kernel_rfl) (by kernel_rfl) (by kernel_rfl) (by kernel_rfl) (fun _ _ _ h => h) (Or.inl ⟨by rfl, ?_⟩) (by assumption) ?_
          rotate_left
          · (intro w hSw; (try dsimp only at hSw); first | (go_simp; done) | (go_simp; with_reducible rfl))
          try simp only [Act.put, List.setIfInBounds_toArray, List.set_cons_zero, List.set_cons_succ]
          refine AnyL.take (i := 15) (oi := { dst := some 73, op := Op.indexAddr 33 (Operand.tmp 58) (Operand.tmp 61), type := 0, pos := "ref.go:221", after := #[{ on := 0, ground := Ground.data }, { on := 3, ground := Ground.data }, { on := 0, ground := Ground.phase }, { on := 1, ground := Ground.phase }, { on := 2, ground := Ground.phase }, { on := 3, ground := Ground.phase }, { on := 4, ground := Ground.phase }, { on := 5, ground := Ground.phase }, { on := 6, ground := Ground.phase }, { on := 7, ground := Ground.phase }, { on := 8, ground := Ground.phase }, { on := 9, ground := Ground.phase }, { on := 10, ground := Ground.phase }, { on := 11, ground := Ground.phase }, { on := 12, ground := Ground.phase }, { on := 13, ground := Ground.phase }, { on := 14, ground := Ground.phase }], guard := none }) (v := ?_) rfl (by decide) (by kernel_rfl) (by kernel_rfl) (by kernel_rfl) (by kernel_rfl) (fun _ _ _ h => h) (Or.inl ⟨by rfl, ?_⟩) (by assumption) ?_
          rotate_left
          · (intro w hSw; (try dsimp only at hSw); first | (go_simp; done) | (go_simp; with_reducible rfl))
          try simp only [Act.put, List.setIfInBounds_toArray, List.set_cons_zero, List.set_cons_succ]
          have n6 := hHeld.1
          have f6 := hHeld.2.1
          clear hHeld
          refine AnyL.ready (rs := [16]) (by kernel_rfl) (by simp) ?_
          refine (AllL.cons (o := { dst := none, op := Op.store 5 (Operand.tmp 73) (Operand.tmp 72), type := 0, pos := "ref.go:221", after := #[{ on := 15, ground := Ground.data }, { on := 14, ground := Ground.data }, { on := 12, ground := Ground.chain }, { on := 0, ground := Ground.phase }, { on := 1, ground := Ground.phase }, { on := 2, ground := Ground.phase }, { on := 3, ground := Ground.phase }, { on := 4, ground := Ground.phase }, { on := 5, ground := Ground.phase }, { on := 6, ground := Ground.phase }, { on := 7, ground := Ground.phase }, { on := 8, ground := Ground.phase }, { on := 9, ground := Ground.phase }, { on := 10, ground := Ground.phase }, { on := 11, ground := Ground.phase }, { on := 12, ground := Ground.phase }, { on := 13, ground := Ground.phase }, { on := 14, ground := Ground.phase }], guard := none }) rfl (fun K hK => ?_) AllL.nil)
          go_simp
          refine hK.out _ _ (fun h => absurd rfl h) ?_
          clear hK K
          try simp only [Act.put, List.setIfInBounds_toArray, List.set_cons_zero, List.set_cons_succ]
          refine AnyL.done (by kernel_rfl) ?_ _
          rw [spb_bits]
          have hgd : y.bytes.getD i 0 = bx := by
            have h1 : l4[i]? = y.bytes[i]? := by rw [HL4.out, List.getElem?_take_of_lt (by omega)]
            rw [List.getD_eq_getElem?_getD, ← h1, List.getElem?_eq_getElem hil, HBX.out]
            rfl
          have HGD := Lib.hid hgd
          clear hgd
          obtain ⟨l5, hl5⟩ : ∃ l5, l5 = l4.set i (spb bx q) := ⟨_, rfl⟩
          have hln5 : l5.length = i + 1 := by rw [hl5, List.length_set, hln]; exact HII.out
          have hc5 : ∀ k (h : k < l5.length), (w6.setCell ⟨w3.heap.size, i, none⟩ (.int .u8 ((spb bx q).toNat : Nat))).cell? ⟨w3.heap.size, k, none⟩ = some (.int .u8 l5[k].toNat) := fun k h => by
            by_cases hki : k = i
            · subst hki
              rw [World.cell?_setCell_same (h := n6)]
              simp [hl5]
            · rw [World.cell?_setCell_other (h := show (⟨w3.heap.size, i, none⟩ : Addr) ≠ ⟨w3.heap.size, k, none⟩ by intro e; simp at e <;> omega)]
              have h4 : k < l4.length := by rw [hl5, List.length_set] at h; exact h
              rw [cell_later HD6.out.bel (HC4.out k h4)]
              simp [hl5, List.getElem_set, Ne.symm hki]
          have hb5 : Bel wr (w6.setCell ⟨w3.heap.size, i, none⟩ (.int .u8 ((spb bx q).toNat : Nat))) := (HB4.out.trans HD6.out.bel).setCell (p := ⟨w3.heap.size, i, none⟩) (Nat.le_of_lt hz3) _
          have hbb5 : Bel w3 (w6.setCell ⟨w3.heap.size, i, none⟩ (.int .u8 ((spb bx q).toNat : Nat))) := (HBB.out.trans HD6.out.bel).setCell (p := ⟨w3.heap.size, i, none⟩) (Nat.le_refl _) _
          generalize w6.setCell ⟨w3.heap.size, i, none⟩ (.int .u8 ((spb bx q).toNat : Nat)) = w5 at hc5 hb5 hbb5 ⊢
          have HC5 := Lib.hid hc5
          have HB5 := Lib.hid hb5
          have HBB5 := Lib.hid hbb5
          have HL5 := Lib.hid hl5
          clear hc5 hb5 hbb5 hl5 n6 f6 n4 f4 HS hx hi1 hwi hw3s hws htk htl2 htp hcv
          go_wp2_with (fail)
          have n0 := cell_later HB5.out c0
          have n1 := cell_later HBB5.out e0
          have HBN := Lib.hid HB5.out
          have HCN := Lib.hid (fun z (hz : Bel w5 z) => run_convert_bytes_back (P := Try.prog) z 33 9 5 ⟨w3.heap.size, 0, none⟩ C4 l5 Try.underlying33 Try.underlying5 Try.underlying9 (fun i hi => by rw [zero_add_addr]; exact cell_later hz (HC5.out i hi)))
          rw [hln5] at HCN
          have HS := Lib.hid (show ∀ z, Bel w5 z → (z.cell? ⟨b, 0, none⟩ = some (.slice (some ⟨g, 0, none⟩) M.L.length cap) ∧ z.cell? ⟨wr.heap.size, 0, none⟩ = some (.string ⟨y.name.toArray⟩) ∧ (convert 33 9 (.slice (some ⟨w3.heap.size, 0, none⟩) (i + 1) C4)).run Try.prog z = .ok (.string ⟨l5.toArray⟩) z ∧ Bel w5 z) from fun z hz => ⟨cell_later hz n0, cell_later hz n1, HCN.out z hz, hz⟩)
          refine region_L 13 (S := fun z => (z.cell? ⟨b, 0, none⟩ = some (.slice (some ⟨g, 0, none⟩) M.L.length cap) ∧ z.cell? ⟨wr.heap.size, 0, none⟩ = some (.string ⟨y.name.toArray⟩) ∧ (convert 33 9 (.slice (some ⟨w3.heap.size, 0, none⟩) (i + 1) C4)).run Try.prog z = .ok (.string ⟨l5.toArray⟩) z ∧ Bel w5 z)) (by kernel_rfl) (HS.out _ (Bel.refl w5).drew) (fun hHeld => ?_)
          refine AnyL.take (i := 0) (oi := { dst := some 74, op := Op.move (Operand.tmp 0), type := 29, pos := "ref.go:223", after := #[], guard := none }) (v := ?_) rfl (by decide) (by kernel_rfl) (by kernel_rfl) (by kernel_rfl) (by kernel_rfl) (fun _ _ _ h => h) (Or.inl ⟨by rfl, ?_⟩) (by assumption) ?_
          rotate_left
          · (intro w hSw; (try dsimp only at hSw); first | (go_simp; done) | (go_simp; with_reducible rfl))
          try simp only [Act.put, List.setIfInBounds_toArray, List.set_cons_zero, List.set_cons_succ]
          refine AnyL.take (i := 1) (oi := { dst := some 75, op := Op.nilCheck (Operand.tmp 74), type := 0, pos := "ref.go:223", after := #[{ on := 0, ground := Ground.data }], guard := none }) (v := ?_) rfl (by decide) (by kernel_rfl) (by kernel_rfl) (by kernel_rfl) (by kernel_rfl) (fun _ _ _ h => h) (Or.inl ⟨by rfl, ?_⟩) (by assumption) ?_
          rotate_left
          · (intro w hSw; (try dsimp only at hSw); first | (go_simp; done) | (go_simp; with_reducible rfl))
          try simp only [Act.put, List.setIfInBounds_toArray, List.set_cons_zero, List.set_cons_succ]
          refine AnyL.take (i := 2) (oi := { dst := some 76, op := Op.fieldAddr 52 (Operand.tmp 75) 0, type := 0, pos := "ref.go:223", after := #[{ on := 1, ground := Ground.data }], guard := none }) (v := ?_) rfl (by decide) (by kernel_rfl) (by kernel_rfl) (by kernel_rfl) (by kernel_rfl) (fun _ _ _ h => h) (Or.inl ⟨by rfl, ?_⟩) (by assumption) ?_
          rotate_left
          · (intro w hSw; (try dsimp only at hSw); first | (go_simp; done) | (go_simp; with_reducible rfl))
          try simp only [Act.put, List.setIfInBounds_toArray, List.set_cons_zero, List.set_cons_succ]
          refine AnyL.take (i := 3) (oi := { dst := some 77, op := Op.load 50 (Operand.tmp 76), type := 50, pos := "ref.go:223", after := #[{ on := 2, ground := Ground.data }], guard := none }) (v := ?_) rfl (by decide) (by kernel_rfl) (by kernel_rfl) (by kernel_rfl) (by kernel_rfl) (fun _ _ _ h => h) (Or.inl ⟨by rfl, ?_⟩) (by assumption) ?_
          rotate_left
          · (intro w hSw; (try dsimp only at hSw); first | (go_simp; done) | (go_simp; with_reducible rfl))
          try simp only [Act.put, List.setIfInBounds_toArray, List.set_cons_zero, List.set_cons_succ]
          refine AnyL.take (i := 4) (oi := { dst := some 78, op := Op.move (Operand.tmp 7), type := 3, pos := "ref.go:223", after := #[], guard := none }) (v := ?_) rfl (by decide) (by kernel_rfl) (by kernel_rfl) (by kernel_rfl) (by kernel_rfl) (fun _ _ _ h => h) (Or.inl ⟨by rfl, ?_⟩) (by assumption) ?_
          rotate_left
          · (intro w hSw; (try dsimp only at hSw); first | (go_simp; done) | (go_simp; with_reducible rfl))
          try simp only [Act.put, List.setIfInBounds_toArray, List.set_cons_zero, List.set_cons_succ]
          refine AnyL.take (i := 5) (oi := { dst := some 79, op := Op.fieldAddr 64 (Operand.tmp 8) 0, type := 0, pos := "ref.go:223", after := #[], guard := none }) (v := ?_) rfl (by decide) (by kernel_rfl) (by kernel_rfl) (by kernel_rfl) (by kernel_rfl) (fun _ _ _ h => h) (Or.inl ⟨by rfl, ?_⟩) (by assumption) ?_
          rotate_left
          · (intro w hSw; (try dsimp only at hSw); first | (go_simp; done) | (go_simp; with_reducible rfl))
          try simp only [Act.put, List.setIfInBounds_toArray, List.set_cons_zero, List.set_cons_succ]
          refine AnyL.take (i := 6) (oi := { dst := some 80, op := Op.load 9 (Operand.tmp 79), type := 9, pos := "ref.go:223", after := #[{ on := 5, ground := Ground.data }], guard := none }) (v := ?_) rfl (by decide) (by kernel_rfl) (by kernel_rfl) (by kernel_rfl) (by kernel_rfl) (fun _ _ _ h => h) (Or.inl ⟨by rfl, ?_⟩) (by assumption) ?_
          rotate_left
          · (intro w hSw; (try dsimp only at hSw); first | (go_simp; done) | (go_simp; with_reducible rfl))
          try simp only [Act.put, List.setIfInBounds_toArray, List.set_cons_zero, List.set_cons_succ]
          refine AnyL.take (i := 7) (oi := { dst := some 81, op := Op.move (Operand.tmp 11), type := 33, pos := "ref.go:223", after := #[], guard := none }) (v := ?_) rfl (by decide) (by kernel_rfl) (by kernel_rfl) (by kernel_rfl) (by kernel_rfl) (fun _ _ _ h => h) (Or.inl ⟨by rfl, ?_⟩) (by assumption) ?_
          rotate_left
          · (intro w hSw; (try dsimp only at hSw); first | (go_simp; done) | (go_simp; with_reducible rfl))
          try simp only [Act.put, List.setIfInBounds_toArray, List.set_cons_zero, List.set_cons_succ]
          refine AnyL.take (i := 8) (oi := { dst := some 82, op := Op.convert 33 9 (Operand.tmp 81), type := 9, pos := "ref.go:223", after := #[{ on := 7, ground := Ground.data }], guard := none }) (v := ?_) rfl (by decide) (by kernel_rfl) (by kernel_rfl) (by kernel_rfl) (by kernel_rfl) (fun _ _ _ h => h) (Or.inl ⟨by rfl, ?_⟩) (by assumption) ?_
          rotate_left
          · (intro w hSw; (try dsimp only at hSw); first | (go_simp; done) | (go_simp; with_reducible rfl))
          try simp only [Act.put, List.setIfInBounds_toArray, List.set_cons_zero, List.set_cons_succ]
          refine AnyL.take (i := 9) (oi := { dst := some 83, op := Op.move (Operand.tmp 11), type := 33, pos := "ref.go:223", after := #[], guard := none }) (v := ?_) rfl (by decide) (by kernel_rfl) (by kernel_rfl) (by kernel_rfl) (by kernel_rfl) (fun _ _ _ h => h) (Or.inl ⟨by rfl, ?_⟩) (by assumption) ?_
          rotate_left
          · (intro w hSw; (try dsimp only at hSw); first | (go_simp; done) | (go_simp; with_reducible rfl))
          try simp only [Act.put, List.setIfInBounds_toArray, List.set_cons_zero, List.set_cons_succ]
          refine AnyL.take (i := 10) (oi := { dst := some 84, op := Op.call { callee := Callee.builtin Builtin.len, args := #[Operand.tmp 83], argTypes := #[33] }, type := 3, pos := "ref.go:223", after := #[{ on := 9, ground := Ground.data }], guard := none }) (v := ?_) rfl (by decide) (by kernel_rfl) (by kernel_rfl) (by kernel_rfl) (by kernel_rfl) (fun _ _ _ h => h) (Or.inl ⟨by rfl, ?_⟩) (by assumption) ?_
          rotate_left
          · (intro w hSw; (try dsimp only at hSw); first | (go_simp; done) | (go_simp; with_reducible rfl))
          try simp only [Act.put, List.setIfInBounds_toArray, List.set_cons_zero, List.set_cons_succ]
          refine AnyL.take (i := 11) (oi := { dst := some 85, op := Op.build 64 #[(0, Operand.tmp 80), (1, Operand.tmp 82), (2, Operand.tmp 84)], type := 64, pos := "ref.go:223", after := #[{ on := 6, ground := Ground.data }, { on := 8, ground := Ground.data }, { on := 10, ground := Ground.data }], guard := none }) (v := ?_) rfl (by decide) (by kernel_rfl) (by kernel_rfl) (by kernel_rfl) (by kernel_rfl) (fun _ _ _ h => h) (Or.inl ⟨by rfl, ?_⟩) (by assumption) ?_
          rotate_left
          · (intro w hSw; (try dsimp only at hSw); first | (go_simp; done) | (go_simp; with_reducible rfl))
          try simp only [Act.put, List.setIfInBounds_toArray, List.set_cons_zero, List.set_cons_succ]
          clear hHeld
          refine AnyL.ready (rs := [12]) (by kernel_rfl) (by simp) ?_
          refine (AllL.cons (o := { dst := some 86, op := Op.indexAddr 50 (Operand.tmp 77) (Operand.tmp 78), type := 0, pos := "ref.go:223", after := #[{ on := 3, ground := Ground.data }, { on := 4, ground := Ground.data }, { on := 0, ground := Ground.phase }, { on := 1, ground := Ground.phase }, { on := 2, ground := Ground.phase }, { on := 3, ground := Ground.phase }, { on := 4, ground := Ground.phase }, { on := 5, ground := Ground.phase }, { on := 6, ground := Ground.phase }, { on := 7, ground := Ground.phase }, { on := 8, ground := Ground.phase }, { on := 9, ground := Ground.phase }, { on := 10, ground := Ground.phase }, { on := 11, ground := Ground.phase }], guard := none }) rfl (fun K hK => ?_) AllL.nil)
          go_simp
          refine hK.out _ _ (fun _ => HS.out _ (Bel.refl w5).drew) ?_
          clear hK K
          try simp only [Act.put, List.setIfInBounds_toArray, List.set_cons_zero, List.set_cons_succ]
          have fr0 := row_free (HRA.out.bel HBN.out).own (j * 3)
          have fr1 := row_free (HRA.out.bel HBN.out).own (j * 3 + 1)
          have fr2 := row_free (HRA.out.bel HBN.out).own (j * 3 + 2)
          have m0 := cell_later HB5.out d0
          have m1 := cell_later HB5.out d1
          have m2 := cell_later HB5.out d2
          have hgN : g < w5.heap.size := Nat.lt_of_lt_of_le hgl HBN.out.size
          refine AnyL.ready (rs := [13]) (by kernel_rfl) (by simp) ?_
          refine (AllL.cons (o := { dst := none, op := Op.store 64 (Operand.tmp 86) (Operand.tmp 85), type := 0, pos := "ref.go:223", after := #[{ on := 12, ground := Ground.data }, { on := 11, ground := Ground.data }, { on := 0, ground := Ground.phase }, { on := 1, ground := Ground.phase }, { on := 2, ground := Ground.phase }, { on := 3, ground := Ground.phase }, { on := 4, ground := Ground.phase }, { on := 5, ground := Ground.phase }, { on := 6, ground := Ground.phase }, { on := 7, ground := Ground.phase }, { on := 8, ground := Ground.phase }, { on := 9, ground := Ground.phase }, { on := 10, ground := Ground.phase }, { on := 11, ground := Ground.phase }], guard := none }) rfl (fun K hK => ?_) AllL.nil)
          go_simp
          refine hK.out _ _ (fun h => absurd rfl h) ?_
          clear hK K fr0 fr1 fr2 m0 m1 m2
          try simp only [Act.put, List.setIfInBounds_toArray, List.set_cons_zero, List.set_cons_succ]
          refine AnyL.done (by kernel_rfl) ?_ _
          have hcrx : crX (atN lf.L kk) (atN sp.L kk) y = ⟨y.name, l5, i + 1⟩ := by unfold crX; rw [← HT.out, if_neg HT0.out, ← HL4.out, HII.out, Nat.add_sub_cancel, HGD.out, ← HQ.out, ← HL5.out]
          have HX := Lib.hid hcrx
          have HR5 := Lib.hid (ref_row (HRA.out.bel HB5.out) j (by simp [HDL.out]) ⟨y.name, l5, i + 1⟩)
          have HK5 := Lib.hid ((((HKP.out.then HB5.out).setCell (p := ⟨g, j * 3, none⟩) (Or.inl (HVF.out g rfl)) (.string ⟨y.name.toArray⟩)).setCell (p := ⟨g, j * 3 + 1, none⟩) (Or.inl (HVF.out g rfl)) (.string ⟨l5.toArray⟩)).setCell (p := ⟨g, j * 3 + 2, none⟩) (Or.inl (HVF.out g rfl)) (.int .i64 ((i + 1 : Nat) : Int)))
          simp only [Int.natCast_add, Int.natCast_one, Int.cast_ofNat_Int] at HR5 HK5
          clear hcrx
          go_wp2_with (fail)
          go_roundw
          case rel =>
            refine ⟨j + 1, kk + 1, dn ++ [crX (atN lf.L kk) (atN sp.L kk) y], by go_num, by go_num, by omega, by omega, ?_, by simp [HDL.out], ?_, ?_⟩
            · rw [HCR.out, crashF, if_neg HSV.out]; simp
            · have hr := HR5.out
              rw [set_mid HDL.out] at hr
              rw [HX.out, List.append_assoc]
              first | exact hr | exact hr.bel (Bel.refl _).drew
            · first | exact HK5.out | exact HK5.out.drew
          case measure => simp [intOf]; omega
    · obtain rfl : j = M.L.length := by omega
      go_wp2_with (fail)
      go_end0
      have e : M.L.drop M.L.length = [] := List.drop_length ..
      rw [e] at HRA HCR
      have ec : crashF lf.L sp.L 0 M.L = dn := by rw [HCR.out]; simp [crashF]
      refine ⟨⟨_, rfl⟩, HTo.out _ _ _ (show RefAt n₀ _ b (crashS lf.L sp.L M) _ by unfold crashS; rw [ec]; simpa using HRA.out) (HK1.out.trans HKP.out (fun x hx => Or.inl hx)) (Or.inl rfl)⟩
end Go.Proofs.Ytedopiojidaeiaa
