/- SchemaRows: true for every argument. -/
import Derived.Test.YtbalkchphijehaaDoorP12
set_option linter.unusedSimpArgs false
set_option linter.unusedVariables false
set_option maxRecDepth 20000
namespace Go.Proofs.YtbalkchphijehaaDoor
open Go.RowKit Go.Deep


theorem prow_form (t ver : Int) (L : List KV) : ∃ (x : ByteArray) (e : Int), prowV t ver L = .tuple #[.string x, .int .i64 e] := by
  unfold prowV
  split
  · exact ⟨_, _, rfl⟩
  · exact ⟨_, _, rfl⟩
/-- What is taken, in parts. -/
def takQ (o : Option (Nat × Nat × List KV)) : Int × Int × List KV × Int := match o with
  | some x => ((x.1 : Int), (x.2.1 : Int), x.2.2, 0)
  | none => (0, 0, [], 8)
theorem tak_form {o : Option (Nat × Nat × List KV)} {w w' : World} {e : Ending} (h : TakPost14 o w e w') : ∃ p c, e = .returned (.tuple #[.int .i64 (takQ o).1, .agg #[.int .i64 (takQ o).2.1, .slice p (takQ o).2.2.1.length c], .int .i64 (takQ o).2.2.2]) ∧ ValsAt w' p (takQ o).2.2.1 ∧ Bel w w' := by
  cases o with
  | none =>
    obtain ⟨rfl, hb⟩ := h
    exact ⟨none, 0, rfl, fun i hi => by simp [takQ] at hi, hb⟩
  | some x =>
    obtain ⟨v, rfl, hv, hb⟩ := h
    obtain ⟨p, c, rfl, hva⟩ := ownG_vals hv
    exact ⟨p, c, rfl, hva, hb⟩
theorem takQ_len (s : List UInt8) : (takQ (readRow s)).2.2.1.length ≤ 12 := by
  cases h : readRow s with
  | none => simp [takQ]
  | some x => obtain ⟨a, b, L⟩ := x; exact (rowB_parts (row_back h).1).2.2.1
set_option maxHeartbeats 16000000 in
theorem rows14_law (t ver : Int) (q : Option Addr) (d : Nat) (L : List KV) (data : ByteArray) (w : World) (h' : ValsAt w q L) (hL : L.length ≤ maxLen) (hW : allV L) (hstd : Std w) (hn : data.size ≤ maxLen) :
    Calls Tryd.prog 4 #[.int .i64 t, .int .i64 ver, .slice q L.length d, .string data] w fun e w' => e = .returned (.bool true) ∧ Bel w w' := by
  unfold maxLen at *
  have H' := Lib.hid h'
  have HW := Lib.hid hW
  have HST := Lib.hid hstd
  have HLM := Lib.hid hL
  clear h' hW hstd
  go_enter Tryd.func4, Tryd.ntmps4
  go_wp2_with (fail)
  refine (shown14_any _ HST.out).mono ?_
  rintro e w2 ⟨rfl, hb⟩
  have HB2 := Lib.hid (show Bel w w2 from hb)
  clear hb
  go_wp2_with (fail)
  refine (small14_any 0 0 none 0 [] q d L _ (fun i hi => by simp at hi) (by unfold maxLen; simp) (H'.out.bel HB2.out) (by unfold maxLen; exact HLM.out)).mono ?_
  intro e w3 hsm
  obtain ⟨b, rfl, hbs, hb⟩ := hsm
  have HB3 := Lib.hid (HB2.out.trans hb)
  clear hb hbs
  cases b with
  | false =>
    go_wp2_with (fail)
    go_ret
    exact ⟨rfl, HB3.out⟩
  | true =>
    by_cases hl : data.size ≤ 4000
    · have hl' : ¬ (4000 : Int) < (data.size : Int) := by omega
      have HDZ := Lib.hid (show data.size ≤ 1000000 by omega)
      clear hl
      obtain ⟨x, ex, hpx⟩ := prow_form t ver L
      have HPX := Lib.hid hpx
      obtain ⟨o, ho⟩ : ∃ o, o = readRow data.data.toList := ⟨_, rfl⟩
      have hql := takQ_len data.data.toList
      rw [← ho] at hql
      have HO := Lib.hid ho
      obtain ⟨⟨qa, qb, M, qe⟩, hq⟩ : ∃ q, takQ o = q := ⟨_, rfl⟩
      rw [hq] at hql
      have HQ := Lib.hid hq
      simp only at hql
      have HQL := Lib.hid hql
      clear hpx ho hq hql
      obtain ⟨y3, hy3⟩ : ∃ y, y = w3.alloc (.cells #[.int .i64 ver, .slice q L.length d] 41) := ⟨_, rfl⟩
      obtain ⟨Y, hY⟩ : ∃ Y, Y = w3.heap.size := ⟨_, rfl⟩
      have HBY := Lib.hid (show Bel w y3 by rw [hy3]; exact HB3.out.alloc _)
      have HKY := Lib.hid (show y3.heap[Y]? = some (.cells #[.int .i64 ver, .slice q L.length d] 41 (0, 0)) by rw [hy3, hY]; exact heap_alloc_new w3 _)
      go_wp2_with (fail)
      rw [← hy3]
      try rw [← hY]
      clear hy3 hY
      refine (pput14_any t ver q d L _ (H'.out.bel HBY.out) (by unfold maxLen; exact HLM.out) HW.out (HST.out.bel HBY.out)).mono ?_
      rintro e w4 ⟨rfl, hb⟩
      rw [HPX.out]
      have HB4 := Lib.hid (HBY.out.trans hb)
      obtain ⟨⟨r0, r1⟩, -⟩ := qbox2 (qbel HKY.out hb)
      clear hb
      go_wp2_with (fail)
      clear r0 r1
      refine (rrow14_any t ver q d L _ (H'.out.bel HB4.out) (by unfold maxLen; exact HLM.out) HW.out).mono ?_
      rintro e w5 ⟨rfl, hb⟩
      rw [HPX.out]
      have HB5 := Lib.hid (HB4.out.trans hb)
      clear hb
      go_wp2_with (fail)
      refine (ptake14_any data _ HDZ.out (HST.out.bel HB5.out)).mono ?_
      intro e w6 h1
      rw [← HO.out] at h1
      obtain ⟨pp, cc, rfl, hva, hb⟩ := tak_form h1
      rw [HQ.out] at hva ⊢
      simp only at hva ⊢
      have hal : Bel w6 (w6.alloc (.cells #[.int .i64 qb, .slice pp M.length cc] 41)) := (Bel.refl _).alloc _
      have HB7 := Lib.hid ((HB5.out.trans hb).trans hal)
      have HVA := Lib.hid (hva.bel hal)
      have HK7 := Lib.hid (heap_alloc_new w6 (.cells #[.int .i64 qb, .slice pp M.length cc] 41))
      clear h1 hva hb hal
      go_wp2_with (fail)
      refine (rtk14_any data _ HDZ.out).mono ?_
      intro e w8 h1
      rw [← HO.out] at h1
      obtain ⟨pp', cc', rfl, hva, hb⟩ := tak_form h1
      rw [HQ.out] at hva ⊢
      simp only at hva ⊢
      have hal : Bel w8 (w8.alloc (.cells #[.int .i64 qb, .slice pp' M.length cc'] 41)) := (Bel.refl _).alloc _
      have HB9 := Lib.hid ((HB7.out.trans hb).trans hal)
      have HVB := Lib.hid (hva.bel hal)
      have HVA9 := Lib.hid (HVA.out.bel (hb.trans hal))
      obtain ⟨⟨c0, c1⟩, -⟩ := qbox2 (qbel HK7.out (hb.trans hal))
      obtain ⟨⟨d0, d1⟩, -⟩ := qbox2 (heap_alloc_new w8 (.cells #[.int .i64 qb, .slice pp' M.length cc'] 41))
      clear h1 hva hb hal
      go_wp2_with (fail)
      clear c0 c1 d0 d1
      refine (sameV14_any pp pp' cc cc' M _ HVA9.out HVB.out (by have := HQL.out; omega)).mono ?_
      rintro e w10 ⟨rfl, hd⟩
      have HB10 := Lib.hid (HB9.out.trans hd.bel)
      clear hd
      go_wp2_with (fail)
      go_ret
      exact ⟨rfl, HB10.out⟩
    · have hl' : (4000 : Int) < (data.size : Int) := by omega
      clear hl
      go_wp2_with (fail)
      go_ret
      exact ⟨rfl, HB3.out⟩
end Go.Proofs.YtbalkchphijehaaDoor
