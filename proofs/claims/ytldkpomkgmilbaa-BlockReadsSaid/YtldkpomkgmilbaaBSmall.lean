/- The laws' small functions over pairs: pick, as, alike, same, rising. -/
import Derived.Test.YtldkpomkgmilbaaBPair
set_option linter.unusedSimpArgs false
set_option linter.unusedVariables false
namespace Go.Proofs.Ytldkpomkgmilbaa
open Go.RowKit Go.Deep

/-- Which of n things the raw number c speaks of. -/
def pickN (c : Int) (n : Nat) : Nat := if c < 0 then (-(c + 1)).toNat % n else c.toNat % n
theorem pickN_lt (c : Int) {n : Nat} (h : 0 < n) : pickN c n < n := by unfold pickN; split <;> exact Nat.mod_lt _ h
theorem pick_same (c : Int) (n : Nat) (w : World) (hc : -9223372036854775808 ≤ c ∧ c ≤ 9223372036854775807) (hn : 0 < n) (hn2 : n ≤ 1000000) :
    Calls Try.prog 26 #[.int .i64 c, .int .i64 n] w fun e w' => e = .returned (.int .i64 (pickN c n : Nat)) ∧ w' = w := by
  obtain ⟨hc1, hc2⟩ := hc
  have hz : ((n : Int) == 0) = false := by rw [beq_eq_false_iff_ne]; omega
  have hz2 : ¬ n = 0 := by omega
  by_cases h : c < 0
  · obtain ⟨m, hm⟩ : ∃ m : Nat, -(c + 1) = m := ⟨(-(c + 1)).toNat, by omega⟩
    have HP := Lib.hid (show ((pickN c n : Nat) : Int) = -((c + 1).tmod (n : Int)) by
      unfold pickN
      rw [if_pos h, ← Int.neg_tmod, hm, Int.toNat_natCast, Int.tmod_eq_emod_of_nonneg (by omega), Int.natCast_emod])
    clear hm
    go_enter Try.func26, Try.ntmps26
    go_wp2
    go_ret
    exact ⟨ret_int (by rw [HP.out]), rfl⟩
  · obtain ⟨m, rfl⟩ : ∃ m : Nat, c = m := ⟨c.toNat, by omega⟩
    have HP := Lib.hid (show ((pickN m n : Nat) : Int) = (m : Int) % (n : Int) by
      unfold pickN
      rw [if_neg h, Int.toNat_natCast, Int.natCast_emod])
    go_enter Try.func26, Try.ntmps26
    go_wp2
    go_ret
    exact ⟨ret_int (by rw [HP.out]), rfl⟩
theorem pick_any (c : Int) (n : Nat) (w : World) (hc : -9223372036854775808 ≤ c ∧ c ≤ 9223372036854775807) (hn : 0 < n) (hn2 : n ≤ 1000000) :
    Calls Try.prog 26 #[.int .i64 c, .int .i64 n] w fun e w' => e = .returned (.int .i64 (pickN c n : Nat)) ∧ Drw w w' :=
  (pick_same c n w hc hn hn2).mono fun _ _ h => ⟨h.1, by rw [h.2]; exact Drw.refl w⟩
theorem pick_at (c x : Int) (n : Nat) (w : World) (hc : -9223372036854775808 ≤ c ∧ c ≤ 9223372036854775807) (hn : 0 < n) (hn2 : n ≤ 1000000) (hx : x = n) :
    Calls Try.prog 26 #[.int .i64 c, .int .i64 x] w fun e w' => e = .returned (.int .i64 (pickN c n : Nat)) ∧ Drw w w' := by
  subst hx; exact pick_any c n w hc hn hn2


/-- Not too many, none too long. -/
def AsOk (L : List PB) : Prop := L.length ≤ 60 ∧ ∀ i (h : i < L.length), L[i].k.size ≤ 1000 ∧ L[i].v.size ≤ 1500
def AsPost (L : List PB) (w : World) (e : Ending) (w' : World) : Prop :=
  Bel w w' ∧ ((AsOk L ∧ ∃ v, e = .returned (.tuple #[v, .bool true]) ∧ OwnG rpairEl w.heap.size w' v L) ∨ (¬ AsOk L ∧ ∃ v, e = .returned (.tuple #[v, .bool false])))
def AsRel (L : List PB) (w : World) (ov i : Value) (x : World) : Prop :=
  ∃ k : Nat, k ≤ L.length ∧ i = .int .i64 k ∧ OwnG rpairEl w.heap.size x ov (L.take k) ∧ (∀ j (h : j < L.length), j < k → L[j].k.size ≤ 1000 ∧ L[j].v.size ≤ 1500) ∧ Bel w x

set_option maxHeartbeats 4000000 in
theorem as_any (p : Option Addr) (cap : Nat) (L : List PB) (w : World) (h : PairsAt w p L) (hL : L.length ≤ maxLen) (hsz : smallP maxLen L) :
    Calls Try.prog 10 #[.slice p L.length cap] w (AsPost L w) := by
  have H := Lib.hid h; clear h
  have HSM := Lib.hid hsz; clear hsz
  unfold maxLen at hL
  go_enter Try.func10, Try.ntmps10
  by_cases hm : L.length ≤ 60
  · have hm' : ((L.length : Nat) : Int) ≤ 60 := by omega
    go_wp2_with (fail)
    go_loopw [4, 5] (fun ov i x => AsRel L w ov i x) (fun _ i _ => L.length - (intOf i).toNat)
    case atStart => exact ⟨0, Nat.zero_le _, rfl, by simpa using OwnG.nil rpairEl _ _, fun j _ h => by omega, Bel.refl w⟩
    case round =>
      obtain ⟨k, hk, rfl, hown, hj, hb⟩ := hrel
      obtain ⟨pp, pcap, rfl⟩ := ownG_len hown
      have HV := Lib.hid hown; clear hown
      have HJ := Lib.hid hj; clear hj
      have HB := Lib.hid hb; clear hb
      by_cases hlt : k < L.length
      · obtain ⟨a, B, O, sp, rfl, ha, c0, c1⟩ := (H.out.bel HB.out) k hlt
        obtain ⟨m1, m2⟩ := HSM.out k hlt
        have htl : (L.take k).length = k := by rw [List.length_take]; omega
        by_cases s1 : L[k].k.size ≤ 1000
        · by_cases s2 : L[k].v.size ≤ 1500
          · have s1' : ((L[k].k.size : Nat) : Int) ≤ 1000 := by omega
            have s2' : ((L[k].v.size : Nat) : Int) ≤ 1500 := by omega
            have HN := Lib.hid (show ∀ j (hj : j < L.length), j < k + 1 → L[j].k.size ≤ 1000 ∧ L[j].v.size ≤ 1500 by
              intro j hj hjk
              by_cases e : j = k
              · subst e; exact ⟨s1, s2⟩
              · exact HJ.out j hj (by omega))
            have hZ : w.heap.size ≤ wr.heap.size := HB.out.size
            rw [htl]
            rw [htl] at HV
            go_wp2_with (at_builtin; refine stop_here ?_)
            all_goals go_region_law (refine step_append_glit rpairOk rfl (.tmp 31) (.tmp 43) rfl rfl HV.out _ _ _ [L[k]] rfl rfl rfl (by simp [maxLen]; omega) (by simp; omega) (by first | exact hZ | (simp; omega)) (by first | exact Or.inl rfl | exact Or.inr rfl) ?_; intro v2 w2 hown2 hbel2 hZ2; have HV2 := Lib.hid hown2; have HB2 := Lib.hid hbel2; clear hown2 hbel2)
            all_goals go_wp2
            all_goals go_roundw
            all_goals first
              | exact ⟨k + 1, hlt, by go_num, by rw [← List.take_append_getElem hlt]; exact HV2.out, HN.out, HB.out.trans_below HB2.out⟩
              | (simp [intOf]; omega)
          · have s2' : ¬ ((L[k].v.size : Nat) : Int) ≤ 1500 := by omega
            have s1' : ((L[k].k.size : Nat) : Int) ≤ 1000 := by omega
            have HR := Lib.hid (show ¬ AsOk L from fun h => s2 (h.2 k hlt).2)
            clear s2
            go_wp2_with (fail)
            go_ret2
            exact ⟨HB.out, Or.inr ⟨HR.out, _, rfl⟩⟩
        · have s1' : ¬ ((L[k].k.size : Nat) : Int) ≤ 1000 := by omega
          have HR := Lib.hid (show ¬ AsOk L from fun h => s1 (h.2 k hlt).1)
          clear s1
          go_wp2_with (fail)
          go_ret2
          exact ⟨HB.out, Or.inr ⟨HR.out, _, rfl⟩⟩
      · have HR := Lib.hid (show AsOk L from ⟨hm, fun i hi => HJ.out i hi (by omega)⟩)
        have hkl : L.take k = L := List.take_of_length_le (by omega)
        rw [hkl] at HV ⊢
        go_wp2_with (fail)
        go_ret2
        exact ⟨HB.out, Or.inl ⟨HR.out, _, rfl, HV.out⟩⟩
  · have hm' : ¬ ((L.length : Nat) : Int) ≤ 60 := by omega
    have HR := Lib.hid (show ¬ AsOk L from fun h => hm h.1)
    clear hm
    go_wp2_with (fail)
    go_ret2
    exact ⟨Bel.refl w, Or.inr ⟨HR.out, _, rfl⟩⟩

set_option maxHeartbeats 2000000 in
theorem alike_any (p q : Option Addr) (cap cap' : Nat) (L : List PB) (w : World) (h : PairsAt w p L) (h' : PairsAt w q L) (hL : L.length ≤ 1000000) :
    Calls Try.prog 17 #[.slice p L.length cap, .slice q L.length cap'] w fun e w' => e = .returned (.bool true) ∧ Drw w w' := by
  have H := Lib.hid h; clear h
  have H' := Lib.hid h'; clear h'
  go_enter Try.func17, Try.ntmps17
  go_wp2_with (fail)
  go_loopw [5] (fun i x => (∃ k : Nat, k ≤ L.length ∧ i = .int .i64 k) ∧ Drw w x) (fun i _ => L.length - (intOf i).toNat)
  case atStart => exact ⟨⟨0, Nat.zero_le _, rfl⟩, Drw.refl w⟩
  case round =>
    obtain ⟨⟨k, hk, rfl⟩, hw⟩ := hrel
    have HW := Lib.hid hw; clear hw
    by_cases hlt : k < L.length
    · obtain ⟨a, B, O, sp, rfl, ha, c0, c1⟩ := (H.out.bel HW.out.bel) k hlt
      obtain ⟨a', B', O', sp', rfl, ha', c0', c1'⟩ := (H'.out.bel HW.out.bel) k hlt
      go_wp2_with (fail)
      go_quiet (fail)
      go_wp2_with (fail)
      go_roundw
      case rel => exact ⟨⟨k + 1, hlt, by go_num⟩, HW.out.drewN _⟩
      case measure => simp [intOf]; omega
    · go_wp2_with (fail)
      go_ret
      exact ⟨rfl, HW.out⟩
set_option maxHeartbeats 2000000 in
theorem same8_any (p q : Option Addr) (cap cap' : Nat) (L : List PB) (w : World) (h : PairsAt w p L) (h' : PairsAt w q L) (hL : L.length ≤ 1000000) :
    Calls Try.prog 25 #[.slice p L.length cap, .slice q L.length cap'] w fun e w' => e = .returned (.bool true) ∧ Drw w w' := by
  have H := Lib.hid h; clear h
  have H' := Lib.hid h'; clear h'
  go_enter Try.func25, Try.ntmps25
  go_wp2_with (fail)
  go_loopw [5] (fun i x => (∃ k : Nat, k ≤ L.length ∧ i = .int .i64 k) ∧ Drw w x) (fun i _ => L.length - (intOf i).toNat)
  case atStart => exact ⟨⟨0, Nat.zero_le _, rfl⟩, Drw.refl w⟩
  case round =>
    obtain ⟨⟨k, hk, rfl⟩, hw⟩ := hrel
    have HW := Lib.hid hw; clear hw
    by_cases hlt : k < L.length
    · obtain ⟨a, B, O, sp, rfl, ha, c0, c1⟩ := (H.out.bel HW.out.bel) k hlt
      obtain ⟨a', B', O', sp', rfl, ha', c0', c1'⟩ := (H'.out.bel HW.out.bel) k hlt
      go_wp2_with (fail)
      go_quiet (fail)
      go_wp2_with (fail)
      go_roundw
      case rel => exact ⟨⟨k + 1, hlt, by go_num⟩, HW.out.drewN _⟩
      case measure => simp [intOf]; omega
    · go_wp2_with (fail)
      go_ret
      exact ⟨rfl, HW.out⟩

theorem lastK_get : ∀ (L : List PR) (prev : List UInt8) (h : 0 < L.length), lastK prev L = (L[L.length - 1]'(by omega)).k
  | [], _, h => by simp at h
  | [p], _, _ => rfl
  | p :: q :: L, prev, _ => by
    rw [lastK, lastK_get (q :: L) p.k (by simp)]
    simp
theorem ris_take {L : List PB} {k : Nat} {out : List PB} (hlt : k < L.length) (h : risF [] (prs L) = risF (prs out) ((prs L).drop k)) (hc : prs out = [] ∨ Op.bytesLess (lastK [] (prs out)) L[k].pr.k = true) :
    risF [] (prs L) = risF (prs (out ++ [L[k]])) ((prs L).drop (k + 1)) := by
  rw [h, List.drop_eq_getElem_cons (by rw [prs_len]; exact hlt), prs_get L k hlt, risF, if_pos hc, prs_app]; rfl
theorem ris_leave {L : List PB} {k : Nat} {out : List PB} (hlt : k < L.length) (h : risF [] (prs L) = risF (prs out) ((prs L).drop k)) (hc : ¬ (prs out = [] ∨ Op.bytesLess (lastK [] (prs out)) L[k].pr.k = true)) :
    risF [] (prs L) = risF (prs out) ((prs L).drop (k + 1)) := by
  rw [h, List.drop_eq_getElem_cons (by rw [prs_len]; exact hlt), prs_get L k hlt, risF, if_neg hc]
def RisPost (L : List PB) (w : World) (e : Ending) (w' : World) : Prop := ∃ v out, e = .returned v ∧ OwnG pairEl w.heap.size w' v out ∧ prs out = risF [] (prs L) ∧ Bel w w'
def RisRel (L : List PB) (w : World) (ov i : Value) (x : World) : Prop :=
  ∃ (k : Nat) (out : List PB), k ≤ L.length ∧ i = .int .i64 k ∧ OwnG pairEl w.heap.size x ov out ∧ risF [] (prs L) = risF (prs out) ((prs L).drop k) ∧ out.length ≤ k ∧ Bel w x

set_option maxHeartbeats 4000000 in
theorem rising_any (p : Option Addr) (cap : Nat) (L : List PB) (w : World) (h : PairsAt w p L) (hL : L.length ≤ 1000000) :
    Calls Try.prog 24 #[.slice p L.length cap] w (RisPost L w) := by
  have H := Lib.hid h; clear h
  go_enter Try.func24, Try.ntmps24
  go_wp2_with (fail)
  go_loopw [3, 4] (fun ov i x => RisRel L w ov i x) (fun _ i _ => L.length - (intOf i).toNat)
  case atStart => exact ⟨0, [], Nat.zero_le _, rfl, OwnG.nil _ _ _, rfl, Nat.le_refl _, Bel.refl w⟩
  case round =>
    obtain ⟨k, out, hk, rfl, hown, hr, hlo, hb⟩ := hrel
    have HR := Lib.hid hr; clear hr
    by_cases hlt : k < L.length
    · obtain ⟨a, B, O, sp, rfl, ha, c0, c1⟩ := (H.out.bel hb) k hlt
      have i1 : ((k : Nat) : Int) < (L.length : Int) := by omega
      have hZ : w.heap.size ≤ wr.heap.size := hb.size
      by_cases h0 : out = []
      · have HN := Lib.hid (ris_take hlt HR.out (Or.inl (by rw [h0]; rfl)))
        subst h0
        obtain ⟨pp, pcap, rfl⟩ := ownG_len hown
        have HV := Lib.hid hown; clear hown
        have HB := Lib.hid hb; clear hb
        simp only [List.length_nil] at HV ⊢
        go_wp2_with (fail)
        go_quiet (fail)
        go_wp2_with (at_builtin; refine stop_here ?_)
        refine go_on ?_
        refine append_glit pairOk rfl _ _ rfl rfl (HV.out.drewN _) _ _ _ [L[k]] rfl rfl rfl (by simp [maxLen]) (by simp) (by simpa using hZ) (Or.inl rfl) ?_
        intro v2 w2 hown2 hbel2 hZ2
        have HV2 := Lib.hid hown2; have HB2 := Lib.hid hbel2; clear hown2 hbel2
        go_wp2_with (fail)
        go_roundw
        case rel => exact ⟨k + 1, [L[k]], hlt, by go_num, HV2.out, HN.out, by simp, (HB.out.drewN _).trans_below HB2.out⟩
        case measure => simp [intOf]; omega
      · have hpos : 0 < out.length := List.length_pos_iff.2 h0
        have hlast : lastK [] (prs out) = (out[out.length - 1]'(by omega)).k.data.toList := by
          rw [lastK_get (prs out) [] (by rw [prs_len]; exact hpos)]
          simp only [prs_len]
          rw [prs_get out (out.length - 1) (by omega)]; rfl
        have hne : prs out ≠ [] := by
          intro e
          have := congrArg List.length e
          rw [prs_len, List.length_nil] at this; omega
        obtain ⟨pp, pcap, rfl, hat⟩ := ownG_pairs hown
        obtain ⟨a', B', O', sp', rfl, ha', c0', c1'⟩ := hat (out.length - 1) (by omega)
        have HV := Lib.hid hown; clear hown
        have HB := Lib.hid hb; clear hb
        have HL := Lib.hid hlast; clear hlast
        have HNE := Lib.hid hne; clear hne
        generalize hq : (out[out.length - 1]'(by omega)) = q at *
        obtain ⟨m, hm⟩ : ∃ m, out.length = m + 1 := ⟨out.length - 1, by omega⟩
        have hm1 : out.length - 1 = m := by omega
        rw [hm1] at ha'
        rw [hm] at HV ⊢
        have v2 : IntKind.i64.wrap (m : Int) = (m : Int) := IntWalk.i64_in _ (by omega)
        have i0 : ((m : Int) + 1 == 0) = false := by rw [beq_eq_false_iff_ne]; omega
        clear hat
        cases hless : Op.bytesLess q.k.toList L[k].k.toList with
        | true =>
          have HN := Lib.hid (ris_take hlt HR.out (Or.inr (by rw [HL.out, ← ByteArray.toList_eq]; simp only [PB.pr]; rw [← ByteArray.toList_eq]; exact hless)))
          have hor : (Op.bytesLess L[k].k.toList q.k.toList || L[k].k.toList == q.k.toList) = false := by rw [less_not, hless]; rfl
          rw [Bool.or_eq_false_iff] at hor
          obtain ⟨o1, o2⟩ := hor
          clear hless
          go_wp2_with (fail)
          go_quiet (fail)
          go_wp2_with (at_builtin; refine stop_here ?_)
          refine go_on ?_
          refine append_glit pairOk rfl _ _ rfl rfl (HV.out.drewN _) _ _ _ [L[k]] rfl rfl rfl (by simp [maxLen]; omega) (by simp; omega) (by simpa using hZ) (Or.inl rfl) ?_
          intro v2 w2 hown2 hbel2 hZ2
          have HV2 := Lib.hid hown2; have HB2 := Lib.hid hbel2; clear hown2 hbel2
          go_wp2_with (fail)
          go_roundw
          case rel => exact ⟨k + 1, out ++ [L[k]], hlt, by go_num, HV2.out, HN.out, by rw [List.length_append, List.length_singleton]; omega, (HB.out.drewN _).trans_below HB2.out⟩
          case measure => simp [intOf]; omega
        | false =>
          have HN := Lib.hid (ris_leave hlt HR.out (by
            rintro (h | h)
            · exact HNE.out h
            · rw [HL.out, ← ByteArray.toList_eq] at h
              simp only [PB.pr] at h
              rw [← ByteArray.toList_eq, hless] at h; cases h))
          have hor : (Op.bytesLess L[k].k.toList q.k.toList || L[k].k.toList == q.k.toList) = true := by rw [less_not, hless]; rfl
          clear hless
          go_wp2_with (fail)
          go_quiet (fail)
          go_wp2_with (fail)
          go_roundw
          case rel => exact ⟨k + 1, out, hlt, by go_num, HV.out.drewN _, HN.out, by omega, HB.out.drewN _⟩
          case measure => simp [intOf]; omega
    · obtain ⟨pp, pcap, rfl⟩ := ownG_len hown
      have HE := Lib.hid (show prs out = risF [] (prs L) by rw [HR.out, List.drop_eq_nil_of_le (by rw [prs_len]; omega)]; rfl)
      have HV := Lib.hid hown; clear hown
      have HB := Lib.hid hb; clear hb
      have i1 : ¬ ((k : Nat) : Int) < (L.length : Int) := by omega
      go_wp2_with (fail)
      go_ret
      exact ⟨_, out, rfl, HV.out, HE.out, HB.out⟩
end Go.Proofs.Ytldkpomkgmilbaa
