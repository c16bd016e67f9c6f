/- The laws BlockParts and BlockBack walked. -/
import Derived.Test.YtldkpomkgmilbaaBLaw1
set_option linter.unusedSimpArgs false
set_option linter.unusedVariables false
namespace Go.Proofs.Ytldkpomkgmilbaa
open Go.RowKit Go.Deep

theorem prs_mem {L : List PB} {q : PR} (h : q ∈ prs L) : ∃ p ∈ L, p.pr = q := by
  rw [prs, List.mem_map] at h
  exact h
theorem ris_ok {L out : List PB} (hok : AsOk L) (h : prs out = risF [] (prs L)) : incB (prs out) = true ∧ out.length ≤ 60 ∧ smallP 1500 out := by
  refine ⟨by rw [h]; exact ris_inc _ _ rfl, ?_, fun i hi => ?_⟩
  · have h1 := ris_len (prs L) []
    rw [← h, prs_len, prs_len, List.length_nil] at h1
    have := hok.1; omega
  · have hm : (prs out)[i]'(by rw [prs_len]; exact hi) ∈ risF [] (prs L) := by rw [← h]; exact List.getElem_mem _
    rw [prs_get out i hi] at hm
    rcases ris_mem _ _ _ hm with hm | hm
    · simp at hm
    · obtain ⟨p, hp, he⟩ := prs_mem hm
      obtain ⟨j, hj, rfl⟩ := List.getElem_of_mem hp
      have h1 := hok.2 j hj
      have e : L[j] = out[i] := by rw [← bp_pr L[j], he, bp_pr]
      rw [← e]; omega
/-- What is built of pairs that rise: their encoding, or it is too long. -/
theorem build_inc {L : List PR} (h : incB L = true) : buildL L = ([], 10) ∨ buildL L = (encL [] L, 0) := by
  unfold buildL
  rw [if_neg (by rw [h]; simp)]
  split
  · exact Or.inl rfl
  · exact Or.inr rfl
theorem read_of {L : List PB} {t : List UInt8} (hi : incB (prs L) = true) (hs : smallP 1500 L) (hb : buildL (prs L) = (t, 0)) : readL t = some (prs L) ∧ t.length ≤ 40000 ∧ t = encL [] (prs L) := by
  obtain ⟨h1, h2, h3⟩ := build_ok hb
  refine ⟨?_, h3, h2.symm⟩
  rw [← h2]
  refine read_build _ (fun p hp => ?_) hi
  obtain ⟨q, hq, rfl⟩ := prs_mem hp
  obtain ⟨j, hj, rfl⟩ := List.getElem_of_mem hq
  have := hs j hj
  have e1 : L[j].pr.k.length = L[j].k.size := rfl
  have e2 : L[j].pr.v.length = L[j].v.size := rfl
  omega

set_option maxHeartbeats 4000000 in
set_option maxRecDepth 20000 in
theorem law_parts_any (w : World) (p : Option Addr) (cap : Nat) (L : List PB) (lo hi : ByteArray) (h : PairsAt w p L) (hL : L.length ≤ maxLen) (hs : smallP maxLen L) (hlo : lo.size ≤ maxLen) (hhi : hi.size ≤ maxLen) :
    Calls Try.prog 6 #[.slice p L.length cap, .string lo, .string hi] w fun e w' => e = .returned (.bool true) ∧ Bel w w' := by
  have H := Lib.hid h; clear h
  have HSM := Lib.hid hs; clear hs
  have HL := Lib.hid hL
  unfold maxLen at hL hlo hhi
  go_enter Try.func6, Try.ntmps6
  go_wp2_with (fail)
  refine (shown_any w).mono ?_
  rintro e w1 ⟨rfl, hb1⟩
  have HB1 := Lib.hid hb1; clear hb1
  go_wp2_with (fail)
  refine (as_any p cap L w1 (H.out.bel HB1.out) HL.out HSM.out).mono ?_
  rintro e w2 ⟨hb2, (⟨hok, v, rfl, ho⟩ | ⟨hno, v, rfl⟩)⟩
  · have HB2 := Lib.hid (HB1.out.trans hb2)
    have HOK := Lib.hid hok
    obtain ⟨q, qc, rfl, hat⟩ := ownG_rpairs ho
    clear hb2 hok ho hat
    by_cases h3 : hi.toList = []
    · have h4 : hi.toList.isEmpty = true := by rw [h3]; rfl
      go_wp2_with (fail)
      go_ret
      exact ⟨rfl, HB2.out⟩
    have h4 : hi.toList.isEmpty = false := by cases h : hi.toList with | nil => exact absurd h h3 | cons _ _ => rfl
    cases hgt : Op.bytesLess hi.toList lo.toList with
    | true =>
      have hor : (Op.bytesLess lo.toList hi.toList || lo.toList == hi.toList) = false := by rw [less_not, hgt]; rfl
      rw [Bool.or_eq_false_iff] at hor
      obtain ⟨o1, o2⟩ := hor
      clear hgt
      go_wp2_with (fail)
      go_ret
      exact ⟨rfl, HB2.out⟩
    | false =>
      have hor : (Op.bytesLess lo.toList hi.toList || lo.toList == hi.toList) = true := by rw [less_not, hgt]; rfl
      have HGT := Lib.hid hgt
      clear hgt
      by_cases h5 : hi.size ≤ 300
      · have h5' : (hi.size : Int) ≤ 300 := by omega
        go_wp2_with (fail)
        refine (rising_any p cap L w2 (H.out.bel HB2.out) (by have := as_len HOK.out; omega)).mono ?_
        rintro e w3 ⟨v, out, rfl, ho3, hpo, hb3⟩
        obtain ⟨r, rc, rfl, hat⟩ := ownG_pairs ho3
        obtain ⟨hinc, hlen, hsm⟩ := ris_ok HOK.out hpo
        have HR := Lib.hid hat
        have HB3 := Lib.hid (HB2.out.trans hb3)
        have HS := Lib.hid hsm
        have HI := Lib.hid hinc
        clear hb3 ho3 hat hsm hpo
        go_wp2_with (fail)
        refine (build_any r rc out w3 HR.out (by omega) (fun i hi => by have := HS.out i hi; omega)).mono ?_
        rintro e w4 ⟨rfl, hb4⟩
        have HB4 := Lib.hid (HB3.out.trans hb4)
        have HR4 := Lib.hid (HR.out.bel hb4)
        clear hb4 hor
        rcases build_inc hinc with hbd | hbd
        · rw [hbd]
          clear hbd hinc
          go_wp2_with (fail)
          go_ret
          exact ⟨rfl, HB4.out⟩
        · obtain ⟨t, ht⟩ : ∃ t, encL [] (prs out) = t := ⟨_, rfl⟩
          rw [ht] at hbd
          obtain ⟨hrd, htl, -⟩ := read_of hinc HS.out hbd
          rw [hbd]
          have htz := mk_size t
          have hdt : (⟨t.toArray⟩ : ByteArray).data.toList = t := by simp
          obtain ⟨tb, htb⟩ : ∃ tb : ByteArray, (⟨t.toArray⟩ : ByteArray) = tb := ⟨_, rfl⟩
          simp only []
          rw [htb] at htz hdt ⊢
          have HRD := Lib.hid (fun f => search_some (f := f) (show readL tb.data.toList = some (prs out) by rw [hdt]; exact hrd))
          clear hbd hinc ht htb hrd hdt
          go_wp2_with (fail)
          refine (between_any tb lo hi w4 (by omega)).mono ?_
          rintro e w5 ⟨v, A, rfl, hoA, hpA, hb5⟩
          rw [HRD.out] at hpA ⊢
          obtain ⟨a, ac, rfl, hatA⟩ := ownG_pairs hoA
          have HB5 := Lib.hid (HB4.out.trans hb5)
          have HA := Lib.hid hatA
          have HOA := Lib.hid hoA
          clear hb5 hatA hoA
          go_wp2_with (fail)
          refine (between_any tb hi ⟨#[]⟩ w5 (by omega)).mono ?_
          rintro e w6 ⟨v, B, rfl, hoB, hpB, hb6⟩
          rw [HRD.out] at hpB ⊢
          obtain ⟨b, bc, rfl, hatB⟩ := ownG_pairs hoB
          have HB6 := Lib.hid (HB5.out.trans hb6)
          have HA6 := Lib.hid (HA.out.bel hb6)
          have HOA6 := Lib.hid (HOA.out.bel hb6)
          have HOB := Lib.hid hoB
          clear hb6 hatB hoB
          go_wp2_with (fail)
          refine (between_any tb lo ⟨#[]⟩ w6 (by omega)).mono ?_
          rintro e w7 ⟨v, C, rfl, hoC, hpC, hb7⟩
          rw [HRD.out] at hpC ⊢
          obtain ⟨c, cc, rfl, hatC⟩ := ownG_pairs hoC
          have HB7 := Lib.hid (HB6.out.trans hb7)
          have HA7 := Lib.hid (HA6.out.bel hb7)
          have HOA7 := Lib.hid (HOA6.out.bel hb7)
          have HOB7 := Lib.hid (HOB.out.bel hb7)
          have HC := Lib.hid hatC
          clear hb7 hatC hoC
          have hABC : A ++ B = C := prs_inj (by
            rw [prs_app, hpA, hpB, hpC]
            exact parts_all (by rw [← ByteArray.toList_eq, ← ByteArray.toList_eq]; exact HGT.out) (by rw [← ByteArray.toList_eq]; exact h3) (prs out) (incB_pair _ HI.out))
          have hAl : A.length ≤ 60 := by
            have := congrArg List.length hpA
            rw [prs_len] at this
            have h2 := List.length_filter_le (fun p => betB lo.data.toList hi.data.toList p.k) (prs out)
            rw [prs_len] at h2; omega
          have hCl : C.length ≤ 60 := by
            have := congrArg List.length hpC
            rw [prs_len] at this
            have h2 := List.length_filter_le (fun p => betB lo.data.toList (⟨#[]⟩ : ByteArray).data.toList p.k) (prs out)
            rw [prs_len] at h2
            rw [this]
            exact Nat.le_trans h2 hlen
          have HAB := Lib.hid (show ∀ i (h : i < A.length), Op.bytesLess A[i].k.toList lo.toList = false ∧ Op.bytesLess A[i].k.toList hi.toList = true from fun i hi' => by
            have hm : A[i].pr ∈ prs A := by rw [← prs_get A i hi']; exact List.getElem_mem _
            rw [hpA, List.mem_filter] at hm
            have hbt := hm.2
            have h5 : (hi.data.toList == []) = false := by rw [beq_eq_false_iff_ne, ← ByteArray.toList_eq]; exact h3
            unfold betB at hbt
            rw [h5] at hbt
            simp only [Bool.false_or, Bool.and_eq_true, Bool.not_eq_true'] at hbt
            rw [ByteArray.toList_eq, ByteArray.toList_eq, ByteArray.toList_eq]
            exact hbt)
          have HJ := Lib.hid hABC
          have hjl := congrArg List.length hABC
          rw [List.length_append] at hjl
          clear hpA hpB hpC hABC
          go_wp2_with (fail)
          go_loopw [19] (fun i x => (∃ k : Nat, k ≤ A.length ∧ i = .int .i64 k) ∧ x = w7) (fun i _ => A.length - (intOf i).toNat)
          case atStart => exact ⟨⟨0, Nat.zero_le _, rfl⟩, rfl⟩
          case round =>
            obtain ⟨⟨k, hk, rfl⟩, rfl⟩ := hrel
            by_cases hlt : k < A.length
            · obtain ⟨g, Bk, O, sp, rfl, hg, c0, c1⟩ := HA7.out k hlt
              obtain ⟨u1, u2⟩ := HAB.out k hlt
              clear hjl
              go_wp2_with (fail)
              go_roundw
              case rel => exact ⟨⟨k + 1, hlt, by go_num⟩, by trivial⟩
              case measure => simp [intOf]; omega
            · have hl0 := heap_alloc_new wr (.cells #[] 50)
              have hBn : Bel wr (wr.alloc (.cells #[] 50)) := (Bel.refl wr).alloc _
              have HB8 := Lib.hid (HB7.out.trans hBn)
              have HOA8 := Lib.hid (HOA7.out.bel hBn)
              have HOB8 := Lib.hid (HOB7.out.bel hBn)
              have HC8 := Lib.hid (HC.out.bel hBn)
              have hz0 : wr.heap.size ≤ (wr.alloc (.cells #[] 50)).heap.size := hBn.size
              have HE := Lib.hid (ownG_empty (E := pairEl) (n := wr.heap.size) hl0 (Nat.le_refl _))
              clear hBn hl0
              go_wp2_with (at_builtin; refine stop_here ?_)
              refine go_on ?_
              refine append_all pairOk rfl _ _ rfl rfl HE.out A rfl (src_own HOA8.out) (by simp only [List.length_nil]; unfold maxLen; omega) (by simp only [List.length_nil]; omega) hz0 ?_
              intro v9 w9 ho9 hk9 hv9
              rw [List.nil_append] at ho9
              have hb9 : Bel wr w9 := ((Bel.refl wr).alloc _).trans_below (hk9.own hz0 (fun k hk => (HE.out.lt k hk).1))
              have HB9 := Lib.hid (HB7.out.trans hb9)
              have HOB9 := Lib.hid (HOB7.out.bel hb9)
              have HC9 := Lib.hid (HC.out.bel hb9)
              have hz9 := hb9.size
              have HBW9 := Lib.hid hb9
              have HO9 := Lib.hid ho9
              obtain ⟨p9, c9, rfl⟩ := ownG_len ho9
              clear ho9 hk9 hv9 hb9
              go_wp2_with (at_builtin; refine stop_here ?_)
              refine go_on ?_
              refine append_all pairOk rfl _ _ rfl rfl HO9.out B rfl (src_own HOB9.out) (by unfold maxLen; omega) (by omega) hz9 ?_
              intro v10 w10 ho10 hk10 hv10
              have hb10 : Below wr.heap.size w9 w10 := hk10.own hz9 (fun k hk => (HO9.out.lt k hk).1)
              have HB10 := Lib.hid (HB9.out.trans_below (Below.mono hb10 (by have := HB7.out.size; omega)))
              have HC10 := Lib.hid (HC.out.bel (HBW9.out.trans_below hb10))
              rw [HJ.out] at ho10
              obtain ⟨p10, c10, rfl, hat10⟩ := ownG_pairs ho10
              have HP10 := Lib.hid hat10
              clear ho10 hk10 hv10 hb10 hat10
              go_wp2_with (fail)
              refine (same8_any p10 c c10 cc C w10 HP10.out HC10.out (by omega)).mono ?_
              rintro e w11 ⟨rfl, hd11⟩
              have HB11 := Lib.hid (HB10.out.trans hd11.bel)
              clear hd11
              go_wp2_with (fail)
              go_ret
              exact ⟨rfl, HB11.out⟩
      · have h5' : ¬ (hi.size : Int) ≤ 300 := by omega
        go_wp2_with (fail)
        go_ret
        exact ⟨rfl, HB2.out⟩
  · have HB2 := Lib.hid (HB1.out.trans hb2)
    clear hb2
    go_wp2_with (fail)
    go_ret
    exact ⟨rfl, HB2.out⟩

theorem enc_len3 : ∀ (L : List PR) (prev : List UInt8), 3 * L.length ≤ (encL prev L).length
  | [], _ => by simp
  | p :: L, prev => by
    have h1 := one_pos prev p
    have h2 := enc_len3 L p.k
    rw [encL, List.length_append, List.length_cons]; omega
/-- Pairs that are read can be built. -/
theorem readB_ok {s : List UInt8} {N : List PB} (hs : s.length ≤ 3000) (h : readL s = some (prs N)) : N.length ≤ 1000 ∧ smallP 100000 N ∧ buildL (prs N) = (s, 0) := by
  obtain ⟨h1, h2⟩ := readL_back h
  refine ⟨?_, fun i hi => ?_, by rw [build_of h2 (by rw [h1]; omega), h1]⟩
  · have := enc_len3 (prs N) []
    rw [h1, prs_len] at this; omega
  · have := enc_small [] (prs N) N[i].pr (by rw [← prs_get N i hi]; exact List.getElem_mem _)
    rw [h1] at this
    have e1 : N[i].pr.k.length = N[i].k.size := rfl
    have e2 : N[i].pr.v.length = N[i].v.size := rfl
    simp only [List.length_nil] at this
    omega
/-- What Find tells of a key that is there. -/
theorem find_there {t : List UInt8} {L : List PB} (hr : readL t = some (prs L)) (hi : incB (prs L) = true) (i : Nat) (h : i < L.length) : findA t L[i].k.data.toList = (L[i].v.data.toList, true, 0) := by
  have hm : L[i].pr ∈ prs L := by rw [← prs_get L i h]; exact List.getElem_mem _
  have hf := find_at (incB_pair _ hi) hm
  have e : L[i].pr.k = L[i].k.data.toList := rfl
  rw [e] at hf
  unfold findA
  rw [hr]; simp only
  rw [hf]; rfl
/-- Find tells just whether a key is there. -/
theorem find_is {t : List UInt8} {L : List PB} (hr : readL t = some (prs L)) (key : List UInt8) : (findA t key).2.1 = (prs L).any (fun p => p.k == key) := by
  unfold findA
  rw [hr]; simp only
  cases hf : (prs L).filter (fun p => p.k == key) with
  | nil =>
    simp only
    rw [List.filter_eq_nil_iff] at hf
    symm
    rw [List.any_eq_false]
    exact fun p hp => hf p hp
  | cons q M =>
    simp only
    symm
    rw [List.any_eq_true]
    have hq : q ∈ (prs L).filter (fun p => p.k == key) := by rw [hf]; simp
    rw [List.mem_filter] at hq
    exact ⟨q, hq.1, hq.2⟩
theorem any_take_succ {L : List PB} {k : Nat} (h : k < L.length) (key : List UInt8) : ((prs L).take (k + 1)).any (fun p => p.k == key) = (((prs L).take k).any (fun p => p.k == key) || L[k].k.data.toList == key) := by
  rw [prs_take_succ L k h, List.any_append]; simp [PB.pr]
theorem findV_of {t key : List UInt8} {a : List UInt8 × Bool × Int} (h : findA t key = a) : findV t key = .tuple #[.string ⟨a.1.toArray⟩, .bool a.2.1, .int .i64 a.2.2] := by unfold findV; rw [h]

set_option maxHeartbeats 4000000 in
set_option maxRecDepth 20000 in
theorem law_back8_any (w : World) (p : Option Addr) (cap : Nat) (L : List PB) (s key : ByteArray) (h : PairsAt w p L) (hL : L.length ≤ maxLen) (hs : smallP maxLen L) (hsz : s.size ≤ maxLen) (hkz : key.size ≤ maxLen) :
    Calls Try.prog 5 #[.slice p L.length cap, .string s, .string key] w fun e w' => e = .returned (.bool true) ∧ Bel w w' := by
  have H := Lib.hid h; clear h
  have HSM := Lib.hid hs; clear hs
  have HL := Lib.hid hL
  unfold maxLen at hL hsz hkz
  go_enter Try.func5, Try.ntmps5
  go_wp2_with (fail)
  refine (shown_any w).mono ?_
  rintro e w1 ⟨rfl, hb1⟩
  have HB1 := Lib.hid hb1; clear hb1
  go_wp2_with (fail)
  refine (as_any p cap L w1 (H.out.bel HB1.out) HL.out HSM.out).mono ?_
  rintro e w2 ⟨hb2, (⟨hok, v, rfl, ho⟩ | ⟨hno, v, rfl⟩)⟩
  · have HB2 := Lib.hid (HB1.out.trans hb2)
    have HOK := Lib.hid hok
    obtain ⟨q, qc, rfl, hat⟩ := ownG_rpairs ho
    clear hb2 hok ho hat
    by_cases h1 : s.size ≤ 3000
    · have h1' : (s.size : Int) ≤ 3000 := by omega
      by_cases h2 : key.size ≤ 300
      · have h2' : (key.size : Int) ≤ 300 := by omega
        go_wp2_with (fail)
        refine (rising_any p cap L w2 (H.out.bel HB2.out) (by have := as_len HOK.out; omega)).mono ?_
        rintro e w3 ⟨v, out, rfl, ho3, hpo, hb3⟩
        obtain ⟨r, rc, rfl, hat⟩ := ownG_pairs ho3
        obtain ⟨hinc, hlen, hsm⟩ := ris_ok HOK.out hpo
        have HR := Lib.hid hat
        have HB3 := Lib.hid (HB2.out.trans hb3)
        have HS := Lib.hid hsm
        have HI := Lib.hid hinc
        clear hb3 ho3 hat hsm hpo
        go_wp2_with (fail)
        refine (build_any r rc out w3 HR.out (by omega) (fun i hi => by have := HS.out i hi; omega)).mono ?_
        rintro e w4 ⟨rfl, hb4⟩
        have HB4 := Lib.hid (HB3.out.trans hb4)
        have HR4 := Lib.hid (HR.out.bel hb4)
        clear hb4
        rcases build_inc hinc with hbd | hbd
        · rw [hbd]
          clear hbd hinc
          go_wp2_with (fail)
          go_ret
          exact ⟨rfl, HB4.out⟩
        · obtain ⟨t, ht⟩ : ∃ t, encL [] (prs out) = t := ⟨_, rfl⟩
          rw [ht] at hbd
          obtain ⟨hrd, htl, -⟩ := read_of hinc HS.out hbd
          rw [hbd]
          have htz := mk_size t
          have hdt : (⟨t.toArray⟩ : ByteArray).data.toList = t := by simp
          obtain ⟨tb, htb⟩ : ∃ tb : ByteArray, (⟨t.toArray⟩ : ByteArray) = tb := ⟨_, rfl⟩
          simp only []
          rw [htb] at htz hdt ⊢
          have HRD0 := Lib.hid (show readL tb.data.toList = some (prs out) by rw [hdt]; exact hrd)
          have HRD := Lib.hid (search_some (f := fun _ => true) HRD0.out)
          clear hbd hinc ht htb hrd hdt
          go_wp2_with (fail)
          refine (read_any tb w4 (by omega)).mono ?_
          rintro e w5 ⟨v, M, rfl, hoM, hpM, hb5⟩
          rw [HRD.out] at hpM ⊢
          obtain rfl : M = out := prs_inj (by rw [hpM]; exact filter_all _)
          obtain ⟨m, mc, rfl, hatM⟩ := ownG_pairs hoM
          have HB5 := Lib.hid (HB4.out.trans hb5)
          have HR5 := Lib.hid (HR4.out.bel hb5)
          have HM := Lib.hid hatM
          clear hb5 hatM hoM hpM
          go_wp2_with (fail)
          refine (same8_any m r mc rc M w5 HM.out HR5.out (by omega)).mono ?_
          rintro e w6 ⟨rfl, hd6⟩
          have HB6 := Lib.hid (HB5.out.trans hd6.bel)
          have HR6 := Lib.hid (HR5.out.bel hd6.bel)
          clear hd6
          go_wp2_with (fail)
          go_loopw [15, 16] (fun tv i x => (∃ k : Nat, k ≤ M.length ∧ i = .int .i64 k ∧ tv = .bool (((prs M).take k).any (fun p => p.k == key.data.toList))) ∧ Bel w6 x) (fun _ i _ => M.length - (intOf i).toNat)
          case atStart => exact ⟨⟨0, Nat.zero_le _, rfl, by simp⟩, Bel.refl w6⟩
          case round =>
            obtain ⟨⟨k, hk, rfl, rfl⟩, hx⟩ := hrel
            have HX := Lib.hid hx
            by_cases hlt : k < M.length
            · obtain ⟨g, Bk, O, sp, rfl, hg, c0, c1⟩ := (HR6.out.bel hx) k hlt
              have HFT := Lib.hid (findV_of (find_there HRD0.out HI.out k hlt))
              have HAN := Lib.hid (any_take_succ hlt key.data.toList)
              have hkz2 := (HS.out k hlt).1
              obtain ⟨an, han⟩ : ∃ an, ((prs M).take k).any (fun p => p.k == key.data.toList) = an := ⟨_, rfl⟩
              rw [han] at HAN ⊢
              have HKE := Lib.hid (show (M[k].k.toList == key.toList) = (M[k].k.data.toList == key.data.toList) by rw [ByteArray.toList_eq, ByteArray.toList_eq])
              clear hx han
              go_wp2_with (fail)
              refine (find_any tb M[k].k wr (by omega)).mono ?_
              rintro e w7 ⟨rfl, hb7⟩
              have HX7 := Lib.hid (HX.out.trans hb7)
              rw [HFT.out]
              simp only []
              try rw [ba_list]
              have e0 := cell_lat hb7 c0
              have e1 := cell_lat hb7 c1
              clear hb7 c0 c1
              cases an with
              | true =>
                go_wp2_with (fail)
                go_roundw
                case rel => exact ⟨⟨k + 1, hlt, by go_num, by rw [HAN.out]; rfl⟩, HX7.out⟩
                case measure => simp [intOf]; omega
              | false =>
                go_wp2_with (fail)
                go_roundw
                case rel => exact ⟨⟨k + 1, hlt, by go_num, by rw [HAN.out, Bool.false_or, ← HKE.out]⟩, HX7.out⟩
                case measure => simp [intOf]; omega
            · have hkl : (prs M).take k = prs M := List.take_of_length_le (by rw [prs_len]; omega)
              rw [hkl]
              have HAN := Lib.hid (find_is HRD0.out key.data.toList)
              obtain ⟨an, han⟩ : ∃ an, (prs M).any (fun p => p.k == key.data.toList) = an := ⟨_, rfl⟩
              rw [han] at HAN ⊢
              obtain ⟨fv, fb, fe, hf⟩ : ∃ fv fb fe, findA tb.data.toList key.data.toList = (fv, fb, fe) := ⟨_, _, _, rfl⟩
              have HFT := Lib.hid (findV_of hf)
              have hfb : fb = an := by have := HAN.out; rw [hf] at this; exact this
              subst hfb
              have hsl : s.data.toList.length = s.size := rfl
              clear hx han hkl hf
              go_wp2_with (fail)
              refine (find_any tb key wr (by omega)).mono ?_
              rintro e w7 ⟨rfl, hb7⟩
              have HX7 := Lib.hid (HX.out.trans hb7)
              clear hb7
              rw [HFT.out]
              simp only []
              go_wp2_with (fail)
              refine (read_any s w7 (by omega)).mono ?_
              rintro e w8 ⟨v, N, rfl, hoN, hpN, hb8⟩
              obtain ⟨n, nc, rfl, hatN⟩ := ownG_pairs hoN
              have HX8 := Lib.hid (HX7.out.trans hb8)
              have HN := Lib.hid hatN
              clear hb8 hatN hoN
              cases hrs : readL s.data.toList with
              | none =>
                rw [search_none (f := fun _ => true) hrs] at hpN ⊢
                have hN0 : N = [] := by
                  have := congrArg List.length hpN
                  rw [prs_len] at this
                  exact List.eq_nil_of_length_eq_zero this
                subst hN0
                clear hrs hpN
                simp only []
                go_wp2_with (fail)
                refine (build_any n nc [] w8 HN.out (by simp) (fun i hi => by simp at hi)).mono ?_
                rintro e w9 ⟨rfl, hb9⟩
                have HX9 := Lib.hid (HX8.out.trans hb9)
                clear hb9
                generalize (buildL (prs [])).1 = u1 at *
                generalize (buildL (prs [])).2 = u2 at *
                go_wp2_with (fail)
                go_ret
                exact ⟨rfl, HB6.out.trans HX9.out⟩
              | some N' =>
                rw [search_some (f := fun _ => true) hrs, filter_all] at hpN ⊢
                simp only [] at hpN ⊢
                subst hpN
                obtain ⟨q1, q2, q3⟩ := readB_ok (by omega) hrs
                have HBN := Lib.hid (show Value.tuple #[.string ⟨(buildL (prs N)).1.toArray⟩, .int .i64 (buildL (prs N)).2] = .tuple #[.string s, .int .i64 0] by rw [q3])
                clear hrs q3
                go_wp2_with (fail)
                refine (build_any n nc N w8 HN.out q1 q2).mono ?_
                rintro e w9 ⟨rfl, hb9⟩
                rw [HBN.out]
                have HX9 := Lib.hid (HX8.out.trans hb9)
                clear hb9
                go_wp2_with (fail)
                go_ret
                exact ⟨rfl, HB6.out.trans HX9.out⟩
      · have h2' : ¬ (key.size : Int) ≤ 300 := by omega
        go_wp2_with (fail)
        go_ret
        exact ⟨rfl, HB2.out⟩
    · have h1' : ¬ (s.size : Int) ≤ 3000 := by omega
      go_wp2_with (fail)
      go_ret
      exact ⟨rfl, HB2.out⟩
  · have HB2 := Lib.hid (HB1.out.trans hb2)
    clear hb2
    go_wp2_with (fail)
    go_ret
    exact ⟨rfl, HB2.out⟩
end Go.Proofs.Ytldkpomkgmilbaa
