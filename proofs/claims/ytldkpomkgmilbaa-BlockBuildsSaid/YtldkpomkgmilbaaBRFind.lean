/- moultref8.Find and Between. -/
import Derived.Test.YtldkpomkgmilbaaBRRead
set_option linter.unusedSimpArgs false
set_option linter.unusedVariables false
namespace Go.Proofs.Ytldkpomkgmilbaa
open Go.RowKit Go.Deep

theorem search_all (s : List UInt8) (f : List UInt8 → Bool) : searchL s f = ((readAll s).1.filter (fun p => f p.k), (readAll s).2) := by
  cases h : readL s with
  | none => rw [search_none h, readAll_none h]; rfl
  | some M => rw [search_some h, readAll_some h]
theorem filter_first {L : List PB} {f : List UInt8 → Bool} (i : Nat) (hi : i < L.length) (hf : f L[i].k.data.toList = true) (hb : ∀ j (h : j < L.length), j < i → f L[j].k.data.toList = false) :
    ∃ M', (prs L).filter (fun p => f p.k) = L[i].pr :: M' := by
  have e : prs L = (prs L).take i ++ L[i].pr :: (prs L).drop (i + 1) := by
    have hd := List.drop_eq_getElem_cons (l := prs L) (i := i) (by rw [prs_len]; exact hi)
    rw [prs_get L i hi] at hd
    rw [← hd, List.take_append_drop]
  refine ⟨((prs L).drop (i + 1)).filter (fun p => f p.k), ?_⟩
  conv => lhs; rw [e]
  rw [List.filter_append, List.filter_cons_of_pos (by simpa [PB.pr] using hf), List.filter_eq_nil_iff.2]
  · rfl
  · intro p hp
    obtain ⟨j, hj, rfl⟩ := List.getElem_of_mem hp
    rw [List.length_take, prs_len] at hj
    rw [List.getElem_take, prs_get L j (by omega)]
    have := hb j (by omega) (by omega)
    simp only [PB.pr]; rw [this]; simp
theorem filter_none {L : List PB} {f : List UInt8 → Bool} (hb : ∀ j (h : j < L.length), f L[j].k.data.toList = false) : (prs L).filter (fun p => f p.k) = [] := by
  rw [List.filter_eq_nil_iff]
  intro p hp
  obtain ⟨j, hj, rfl⟩ := List.getElem_of_mem hp
  rw [prs_len] at hj
  rw [prs_get L j hj]
  have := hb j hj
  simp only [PB.pr]; rw [this]; simp

set_option maxHeartbeats 2000000 in
theorem rfind_any (s key : ByteArray) (w : World) (hs : s.size ≤ 3000) :
    Calls Try.prog 21 #[.string s, .string key] w fun e w' => e = .returned (findV s.data.toList key.data.toList) ∧ Bel w w' := by
  go_enter Try.func21, Try.ntmps21
  go_wp2_with (fail)
  refine (rread_any s w hs).mono ?_
  rintro e w1 ⟨v, L, rfl, ho, hp, hsm, hlen, hb⟩
  obtain ⟨p, cap, rfl, hat⟩ := ownG_rpairs ho
  have HB := Lib.hid hb
  have H := Lib.hid hat
  have HF := Lib.hid (search_all s.data.toList (fun k => k == key.data.toList))
  have HP := Lib.hid hp
  obtain ⟨E, hE⟩ : ∃ E, (readAll s.data.toList).2 = E := ⟨_, rfl⟩
  rw [hE] at HF ⊢
  clear ho hp hb hat hE
  go_wp2_with (fail)
  go_loopw [9] (fun i x => (∃ k : Nat, k ≤ L.length ∧ i = .int .i64 k ∧ ∀ j (h : j < L.length), j < k → (L[j].k.data.toList == key.data.toList) = false) ∧ Bel w1 x) (fun i _ => L.length - (intOf i).toNat)
  case atStart => exact ⟨⟨0, Nat.zero_le _, rfl, fun j _ h => by omega⟩, Bel.refl w1⟩
  case round =>
    obtain ⟨⟨k, hk, rfl, hj⟩, hx⟩ := hrel
    have HJ := Lib.hid hj; clear hj
    have HX := Lib.hid hx
    by_cases hlt : k < L.length
    · obtain ⟨a, B, O, sp, rfl, ha, c0, c1⟩ := (H.out.bel hx) k hlt
      clear hx
      cases he : (L[k].k.data.toList == key.data.toList) with
      | true =>
        have HR := Lib.hid (show findV s.data.toList key.data.toList = .tuple #[.string L[k].v, .bool true, .int .i64 0] by
          obtain ⟨M', hM⟩ := filter_first (f := fun k => k == key.data.toList) k hlt he (fun j hj hjk => HJ.out j hj hjk)
          unfold findV; rw [findA_cons (p := L[k].pr) (M' := M') (by rw [HF.out, ← HP.out]; exact hM)]; rfl)
        have he2 : (L[k].k.toList == key.toList) = true := by rw [ByteArray.toList_eq, ByteArray.toList_eq]; exact he
        clear he
        go_wp2_with (fail)
        go_ret3
        exact ⟨by rw [HR.out]; rfl, HB.out.trans HX.out⟩
      | false =>
        have he2 : (L[k].k.toList == key.toList) = false := by rw [ByteArray.toList_eq, ByteArray.toList_eq]; exact he
        have HN := Lib.hid (show ∀ j (hj : j < L.length), j < k + 1 → (L[j].k.data.toList == key.data.toList) = false by
          intro j hj hjk
          by_cases e : j = k
          · subst e; exact he
          · exact HJ.out j hj (by omega))
        clear he
        go_wp2_with (fail)
        go_roundw
        case rel => exact ⟨⟨k + 1, hlt, by go_num, HN.out⟩, HX.out⟩
        case measure => simp [intOf]; omega
    · have HR := Lib.hid (show findV s.data.toList key.data.toList = .tuple #[.string ⟨#[]⟩, .bool false, .int .i64 E] by
        unfold findV; rw [findA_nil (by rw [HF.out, ← HP.out]; exact filter_none (f := fun k => k == key.data.toList) (fun j hj => HJ.out j hj (by omega))), HF.out])
      clear hx
      go_wp2_with (fail)
      go_ret3
      exact ⟨by rw [HR.out]; rfl, HB.out.trans HX.out⟩

def RSearchPost (s : List UInt8) (f : List UInt8 → Bool) (w : World) (e : Ending) (w' : World) : Prop :=
  ∃ v L, e = .returned (.tuple #[v, .int .i64 (searchL s f).2]) ∧ OwnG rpairEl w.heap.size w' v L ∧ prs L = (searchL s f).1 ∧ L.length ≤ 1000 ∧ Bel w w'
def RBetRel (L : List PB) (f : List UInt8 → Bool) (w1 : World) (ov i : Value) (x : World) : Prop :=
  ∃ (k : Nat) (out : List PB), k ≤ L.length ∧ i = .int .i64 k ∧ OwnG rpairEl w1.heap.size x ov out ∧ prs out = ((prs L).take k).filter (fun p => f p.k) ∧ out.length ≤ k ∧ Bel w1 x
theorem filter_take_succ {L : List PB} {f : List UInt8 → Bool} {k : Nat} (h : k < L.length) : ((prs L).take (k + 1)).filter (fun p => f p.k) = ((prs L).take k).filter (fun p => f p.k) ++ (if f L[k].k.data.toList = true then [L[k].pr] else []) := by
  rw [prs_take_succ L k h, List.filter_append]
  congr 1
  by_cases e : f L[k].k.data.toList = true
  · rw [if_pos e, List.filter_cons_of_pos (by simpa [PB.pr] using e)]; rfl
  · rw [if_neg e, List.filter_cons_of_neg (by simpa [PB.pr] using e)]; rfl

set_option maxHeartbeats 4000000 in
theorem rbetween_any (s lo hi : ByteArray) (w : World) (hs : s.size ≤ 3000) (hlo : lo.size ≤ 1000) (hhi : hi.size ≤ 1000) :
    Calls Try.prog 23 #[.string s, .string lo, .string hi] w (RSearchPost s.data.toList (betB lo.data.toList hi.data.toList) w) := by
  go_enter Try.func23, Try.ntmps23
  go_wp2_with (fail)
  refine (rread_any s w hs).mono ?_
  rintro e w1 ⟨v, L, rfl, ho, hp, hsm, hlen, hb⟩
  obtain ⟨p, cap, rfl, hat⟩ := ownG_rpairs ho
  have HB := Lib.hid hb
  have H := Lib.hid hat
  have HSM := Lib.hid hsm
  have HF := Lib.hid (search_all s.data.toList (betB lo.data.toList hi.data.toList))
  have HP := Lib.hid hp
  obtain ⟨E, hE⟩ : ∃ E, (readAll s.data.toList).2 = E := ⟨_, rfl⟩
  rw [hE] at HF ⊢
  clear ho hp hb hat hE hsm
  go_wp2_with (fail)
  go_loopw [10, 11] (fun ov i x => RBetRel L (betB lo.data.toList hi.data.toList) w1 ov i x) (fun _ i _ => L.length - (intOf i).toNat)
  case atStart => exact ⟨0, [], Nat.zero_le _, rfl, OwnG.nil _ _ _, rfl, Nat.le_refl _, Bel.refl w1⟩
  case round =>
    obtain ⟨k, out, hk, rfl, hown, hout, hol, hx⟩ := hrel
    obtain ⟨op, ocap, rfl⟩ := ownG_len hown
    have HO := Lib.hid hown
    have HU := Lib.hid hout
    have HX := Lib.hid hx
    have hwz := hx.size
    clear hown hout
    by_cases hlt : k < L.length
    · obtain ⟨a, B, O, sp, rfl, ha, c0, c1⟩ := (H.out.bel hx) k hlt
      obtain ⟨s1, s2⟩ := HSM.out k hlt
      have HTS := Lib.hid (filter_take_succ (f := betB lo.data.toList hi.data.toList) hlt)
      have HC1 := Lib.hid (fun z => ref_bytes_any L[k].k lo z (by unfold maxLen; omega) (by unfold maxLen; omega))
      have HC2 := Lib.hid (fun z => ref_bytes_any L[k].k hi z (by unfold maxLen; omega) (by unfold maxLen; omega))
      have g1 := cmp_geq L[k].k.data.toList lo.data.toList
      have g2 := cmp_less L[k].k.data.toList hi.data.toList
      have hbet : betB lo.data.toList hi.data.toList L[k].k.data.toList = (!(Op.bytesLess L[k].k.data.toList lo.data.toList) && (hi.data.toList == [] || Op.bytesLess L[k].k.data.toList hi.data.toList)) := rfl
      clear hx
      generalize hq1 : Lib.compareBytes L[k].k.data.toList lo.data.toList = q1 at *
      generalize hq2 : Lib.compareBytes L[k].k.data.toList hi.data.toList = q2 at *
      by_cases h1 : (0 : Int) ≤ q1
      · rw [g1.1 h1] at hbet
        by_cases h3 : hi.toList = []
        · have h4 : hi.toList.isEmpty = true := by rw [h3]; rfl
          have hb1 : betB lo.data.toList hi.data.toList L[k].k.data.toList = true := by rw [hbet, ← ByteArray.toList_eq hi, h3]; rfl
          have HN := Lib.hid (show prs (out ++ [L[k]]) = ((prs L).take (k + 1)).filter (fun p => betB lo.data.toList hi.data.toList p.k) by
            rw [HTS.out, hb1, if_pos rfl, prs_app, HU.out]; rfl)
          clear hb1
          clear hbet g1 g2
          go_wp2_with (fail)
          refine (HC1.out _).mono ?_
          rintro e w2 ⟨rfl, n2, rfl⟩
          have e0 : (wr.drewN n2).cell? ⟨B, O, sp⟩ = some (.string L[k].k) := c0
          have e1 : (wr.drewN n2).cell? ⟨B, O + 1, none⟩ = some (.string L[k].v) := c1
          have HO2 := Lib.hid (HO.out.drewN n2)
          have HX2 := Lib.hid (HX.out.drewN n2)
          have hz2 : w1.heap.size ≤ (wr.drewN n2).heap.size := hwz
          generalize wr.drewN n2 = w3 at *
          clear c0 c1
          go_wp2_with (at_builtin; refine stop_here ?_)
          refine go_on ?_
          refine append_glit rpairOk rfl _ _ rfl rfl HO2.out _ _ _ [L[k]] rfl rfl rfl (by simp only [List.length_singleton]; unfold maxLen; omega) (by simp only [List.length_singleton]; omega) hz2 (Or.inl rfl) ?_
          intro v4 w4 ho4 hb4 hz4
          have HO4 := Lib.hid ho4
          have HX4 := Lib.hid (HX2.out.trans_below hb4)
          clear ho4 hb4
          go_wp2_with (fail)
          go_roundw
          case rel => exact ⟨k + 1, out ++ [L[k]], hlt, by go_num, HO4.out, HN.out, by rw [List.length_append, List.length_singleton]; omega, HX4.out⟩
          case measure => simp [intOf]; omega
        · have h4 : hi.toList.isEmpty = false := by cases h : hi.toList with | nil => exact absurd h h3 | cons _ _ => rfl
          have h5 : (hi.data.toList == []) = false := by rw [beq_eq_false_iff_ne, ← ByteArray.toList_eq]; exact h3
          rw [h5] at hbet
          by_cases h6 : q2 < 0
          · have HN := Lib.hid (show prs (out ++ [L[k]]) = ((prs L).take (k + 1)).filter (fun p => betB lo.data.toList hi.data.toList p.k) by
              rw [HTS.out, hbet, g2.1 h6, if_pos (by rfl), prs_app, HU.out]; rfl)
            clear hbet g1 g2 h5
            go_wp2_with (fail)
            refine (HC1.out _).mono ?_
            rintro e w2 ⟨rfl, n2, rfl⟩
            have e0 : (wr.drewN n2).cell? ⟨B, O, sp⟩ = some (.string L[k].k) := c0
            have e1 : (wr.drewN n2).cell? ⟨B, O + 1, none⟩ = some (.string L[k].v) := c1
            have HO2 := Lib.hid (HO.out.drewN n2)
            have HX2 := Lib.hid (HX.out.drewN n2)
            have hz2 : w1.heap.size ≤ (wr.drewN n2).heap.size := hwz
            generalize wr.drewN n2 = w3 at *
            clear c0 c1
            go_wp2_with (fail)
            refine (HC2.out _).mono ?_
            rintro e w2 ⟨rfl, n3, rfl⟩
            replace e0 : (w3.drewN n3).cell? ⟨B, O, sp⟩ = some (.string L[k].k) := e0
            replace e1 : (w3.drewN n3).cell? ⟨B, O + 1, none⟩ = some (.string L[k].v) := e1
            replace HO2 := Lib.hid (HO2.out.drewN n3)
            replace HX2 := Lib.hid (HX2.out.drewN n3)
            replace hz2 : w1.heap.size ≤ (w3.drewN n3).heap.size := hz2
            generalize w3.drewN n3 = w4 at *
            go_wp2_with (at_builtin; refine stop_here ?_)
            refine go_on ?_
            refine append_glit rpairOk rfl _ _ rfl rfl HO2.out _ _ _ [L[k]] rfl rfl rfl (by simp only [List.length_singleton]; unfold maxLen; omega) (by simp only [List.length_singleton]; omega) hz2 (Or.inl rfl) ?_
            intro v5 w5 ho5 hb5 hz5
            have HO5 := Lib.hid ho5
            have HX5 := Lib.hid (HX2.out.trans_below hb5)
            clear ho5 hb5
            go_wp2_with (fail)
            go_roundw
            case rel => exact ⟨k + 1, out ++ [L[k]], hlt, by go_num, HO5.out, HN.out, by rw [List.length_append, List.length_singleton]; omega, HX5.out⟩
            case measure => simp [intOf]; omega
          · have h7 : Op.bytesLess L[k].k.data.toList hi.data.toList = false := by
              cases h : Op.bytesLess L[k].k.data.toList hi.data.toList with
              | false => rfl
              | true => exact absurd (g2.2 h) h6
            have HN := Lib.hid (show prs out = ((prs L).take (k + 1)).filter (fun p => betB lo.data.toList hi.data.toList p.k) by
              rw [HTS.out, hbet, h7, if_neg (by simp), HU.out, List.append_nil])
            clear hbet g1 g2 h5 h7
            go_wp2_with (fail)
            refine (HC1.out _).mono ?_
            rintro e w2 ⟨rfl, n2, rfl⟩
            have e0 : (wr.drewN n2).cell? ⟨B, O, sp⟩ = some (.string L[k].k) := c0
            have HO2 := Lib.hid (HO.out.drewN n2)
            have HX2 := Lib.hid (HX.out.drewN n2)
            generalize wr.drewN n2 = w3 at *
            clear c0 c1
            go_wp2_with (fail)
            refine (HC2.out _).mono ?_
            rintro e w2 ⟨rfl, n3, rfl⟩
            go_wp2_with (fail)
            go_roundw
            case rel => exact ⟨k + 1, out, hlt, by go_num, HO2.out.drewN n3, HN.out, by omega, HX2.out.drewN n3⟩
            case measure => simp [intOf]; omega
      · have h7 : Op.bytesLess L[k].k.data.toList lo.data.toList = true := by
          cases h : Op.bytesLess L[k].k.data.toList lo.data.toList with
          | true => rfl
          | false => exact absurd (g1.2 h) h1
        have HN := Lib.hid (show prs out = ((prs L).take (k + 1)).filter (fun p => betB lo.data.toList hi.data.toList p.k) by
          rw [HTS.out, hbet, h7, if_neg (by simp), HU.out, List.append_nil])
        clear hbet g1 g2 h7
        by_cases h3 : hi.toList = []
        · have h4 : hi.toList.isEmpty = true := by rw [h3]; rfl
          go_wp2_with (fail)
          refine (HC1.out _).mono ?_
          rintro e w2 ⟨rfl, n2, rfl⟩
          go_wp2_with (fail)
          go_roundw
          case rel => exact ⟨k + 1, out, hlt, by go_num, HO.out.drewN n2, HN.out, by omega, HX.out.drewN n2⟩
          case measure => simp [intOf]; omega
        · have h4 : hi.toList.isEmpty = false := by cases h : hi.toList with | nil => exact absurd h h3 | cons _ _ => rfl
          go_wp2_with (fail)
          refine (HC1.out _).mono ?_
          rintro e w2 ⟨rfl, n2, rfl⟩
          go_wp2_with (fail)
          go_roundw
          case rel => exact ⟨k + 1, out, hlt, by go_num, HO.out.drewN n2, HN.out, by omega, HX.out.drewN n2⟩
          case measure => simp [intOf]; omega
    · have HR := Lib.hid (show searchL s.data.toList (betB lo.data.toList hi.data.toList) = (prs out, E) by
        rw [HF.out, ← HP.out, HU.out, List.take_of_length_le (by rw [prs_len]; omega)])
      have hwz2 := HB.out.size
      clear hx
      go_wp2_with (fail)
      go_ret2
      exact ⟨_, out, by rw [HR.out]; rfl, HO.out.low hwz2, by rw [HR.out], by omega, HB.out.trans HX.out⟩
end Go.Proofs.Ytldkpomkgmilbaa
