/- The walk of KeyBack. -/
import Derived.Test.YtggmeggfibblhaaDoorKLaw2
set_option linter.unusedSimpArgs false
set_option linter.unusedVariables false
namespace Go.Proofs.YtggmeggfibblhaaDoor
open Go.RowKit Go.Deep

theorem right_size (v : KV) (h : v.right = true) : v.s.size ≤ maxLen := by
  have h2 : v.t.length ≤ 1000 := by
    rcases right_cases v h with h | h
    · rw [h.2.2.1]; simp
    · exact h.2.2.2.1
  have : v.s.size = v.t.length := rfl
  unfold maxLen; omega
def BackRel (L : List KV) (s : ByteArray) (w : World) (rv i : Value) (x : World) : Prop := ∃ (k : Nat) (r : ByteArray), k ≤ L.length ∧ i = .int .i64 k ∧ rv = .string r ∧ r.data.toList = catL (L.drop k) ++ s.data.toList ∧ Bel w x

set_option maxHeartbeats 8000000 in
theorem back_law (p : Option Addr) (cap : Nat) (L : List KV) (s : ByteArray) (w : World) (hv : ValsAt w p L) (hL : L.length ≤ maxLen) (hin : allV L) (hs : s.size ≤ maxLen) (hstd : Std w) :
    Calls Tryd.prog 5 #[.slice p L.length cap, .string s] w fun e w' => e = .returned (.bool true) ∧ Bel w w' := by
  unfold maxLen at hs
  have HS := Lib.hid hstd; clear hstd
  have HV := Lib.hid hv; clear hv
  have HI := Lib.hid hin; clear hin
  have hsl : s.data.toList.length = s.size := rfl
  go_enter Tryd.func5, Tryd.ntmps5
  go_wp2_with (fail)
  refine (shown_any _ HS.out).mono ?_
  rintro e w1 ⟨rfl, hb⟩
  have HB := Lib.hid hb; clear hb
  go_wp2_with (fail)
  refine (small_any p cap L _ (HV.out.bel HB.out) hL).mono ?_
  rintro e w2 ⟨rfl, rfl⟩
  cases hsm : smallB L with
  | false =>
    go_wp2_with (fail)
    go_ret
    exact ⟨rfl, HB.out⟩
  | true =>
    by_cases hl : s.size ≤ 4000
    · have hl' : ((s.size : Nat) : Int) ≤ 4000 := by omega
      go_wp2_with (fail)
      refine (tuple_any p cap L _ (HV.out.bel HB.out) hL HI.out (HS.out.bel HB.out)).mono ?_
      rintro e w3 ⟨rfl, hb⟩
      replace HB := Lib.hid (HB.out.trans hb); clear hb
      cases htb : tupB L with
      | false =>
        have HT := Lib.hid (show tupV L = .tuple #[.string ⟨#[]⟩, .int .i64 1] by unfold tupV; rw [htb]; rfl)
        rw [HT.out]
        clear HT
        go_wp2_with (fail)
        refine (take_any s _ (by omega) (HS.out.bel HB.out)).mono ?_
        rintro e w7 ⟨rfl, hb⟩
        replace HB := Lib.hid (HB.out.trans hb); clear hb
        cases hrd : readL s.data.toList with
        | none =>
          have HT : Hid (takeV none = .tuple #[.agg #[.int .i64 0, .int .i64 0, .string ⟨#[]⟩], .string ⟨#[]⟩, .int .i64 8]) := Lib.hid rfl
          rw [HT.out]
          go_wp2_with (fail)
          go_ret
          exact ⟨rfl, HB.out.alloc _⟩
        | some q =>
          obtain ⟨v, rest⟩ := q
          obtain ⟨hvr, hvi, hve⟩ := read_some _ _ _ hrd
          have HT : Hid (takeV (some (v, rest)) = .tuple #[.agg #[.int .i64 v.k, .int .i64 v.n, .string v.s], .string ⟨rest.toArray⟩, .int .i64 0]) := Lib.hid rfl
          have hvs := right_size v hvr
          have HP := Lib.hid (show putV v = .tuple #[.string ⟨(encL v).toArray⟩, .int .i64 0] by unfold putV; rw [if_pos hvr])
          have hel := enc_len v hvr
          have hlen := congrArg List.length hve
          rw [List.length_append, hsl] at hlen
          have HE := Lib.hid (show (⟨(encL v).toArray⟩ ++ ⟨rest.toArray⟩ : ByteArray) = s by rw [ba_append, hve, ba_list])
          clear hvr hve hrd
          rw [HT.out]
          go_wp2_with (fail)
          refine (put_any v _ hvs hvi (HS.out.bel (HB.out.alloc _))).mono ?_
          rintro e w8 ⟨rfl, hb⟩
          rw [HP.out]
          replace HB := Lib.hid ((HB.out.alloc _).trans hb); clear hb
          generalize encL v = E at *
          have hEq : ((⟨E.toArray⟩ ++ ⟨rest.toArray⟩ : ByteArray).toList == s.toList) = true := by rw [HE.out]; simp
          go_wp2_with (fail)
          go_ret
          exact ⟨ret_bool rfl, HB.out⟩
      | true =>
        obtain ⟨hl20, hrr⟩ := tup_of htb
        have HT := Lib.hid (show tupV L = .tuple #[.string ⟨(catL L).toArray⟩, .int .i64 0] by unfold tupV; rw [if_pos htb])
        have hcl := cat_len L hrr
        have HU := Lib.hid (unt_cat L 20 hl20 hrr (fun v hv => (HI.out v hv).1))
        have HRR := Lib.hid hrr; clear hrr
        have hcz : (⟨(catL L).toArray⟩ : ByteArray).size ≤ 1000000 := by show (catL L).toArray.size ≤ _; rw [List.size_toArray]; omega
        rw [HT.out]
        clear HT htb
        go_wp2_with (fail)
        refine (untuple_any ⟨(catL L).toArray⟩ _ hcz (HS.out.bel HB.out)).mono ?_
        rintro e w4 ⟨v1, rfl, hown1, hb⟩
        rw [show (⟨(catL L).toArray⟩ : ByteArray).data.toList = catL L from rfl, HU.out] at hown1 ⊢
        obtain ⟨p1, cap1, rfl, hva1⟩ := ownG_vals hown1
        have HA1 := Lib.hid hva1
        replace HB := Lib.hid (HB.out.trans hb); clear hb hown1 hva1
        have hsome : (some L).getD [] = L := rfl
        have herr : unErr (some L) = 0 := rfl
        rw [hsome] at HA1 ⊢
        rw [herr]
        go_wp2_with (fail)
        refine (same_any p1 p cap1 cap L _ HA1.out (HV.out.bel HB.out) (by omega)).mono ?_
        rintro e w5 ⟨rfl, hw⟩
        replace HB := Lib.hid (HB.out.trans hw.bel); clear hw HA1 hsome herr
        have HC0 := Lib.hid (show (⟨(catL L).toArray⟩ ++ s : ByteArray).data.toList = catL (L.drop 0) ++ s.data.toList by rw [ba_add]; rfl)
        generalize hcat : (⟨(catL L).toArray⟩ : ByteArray) = C at *
        go_wp2_with (fail)
        go_loopw [11, 12] (fun rv i x => BackRel L s w rv i x) (fun _ i _ => L.length - (intOf i).toNat)
        case atStart => exact ⟨0, _, Nat.zero_le _, rfl, rfl, HC0.out, HB.out⟩
        case round =>
          obtain ⟨k, r, hk, rfl, rfl, hr, hb⟩ := hrel
          have HR := Lib.hid hr; clear hr
          have HB := Lib.hid hb; clear hb
          by_cases hlt : k < L.length
          · obtain ⟨a, B, O, sp, rfl, ha, c0, c1, c2⟩ := (HV.out.bel HB.out) k hlt
            have hdr : L.drop k = L[k] :: L.drop (k + 1) := List.drop_eq_getElem_cons hlt
            have HRD := Lib.hid (show readL r.data.toList = some (L[k], catL (L.drop (k + 1)) ++ s.data.toList) by
              rw [HR.out, hdr, catL_cons, List.append_assoc]
              exact read_enc L[k] (HRR.out _ (List.getElem_mem hlt)) (HI.out _ (List.getElem_mem hlt)).1 _)
            have hrz : r.size ≤ 1000000 := by
              have h1 : r.size = (catL (L.drop k) ++ s.data.toList).length := by rw [← HR.out]; rfl
              have h2 := cat_len (L.drop k) (fun v hv => HRR.out v (List.mem_of_mem_drop hv))
              rw [List.length_append, hsl] at h1
              rw [List.length_drop] at h2
              omega
            obtain ⟨R, hR⟩ : ∃ R, catL (L.drop (k + 1)) ++ s.data.toList = R := ⟨_, rfl⟩
            have HRR2 := Lib.hid hR
            rw [hR] at HRD
            clear hR hdr
            have HT : Hid (takeV (some (L[k], R)) = .tuple #[.agg #[.int .i64 L[k].k, .int .i64 L[k].n, .string L[k].s], .string ⟨R.toArray⟩, .int .i64 0]) := Lib.hid rfl
            go_wp2_with (fail)
            refine (take_any r _ hrz (HS.out.bel HB.out)).mono ?_
            rintro e w6 ⟨rfl, hb⟩
            rw [HRD.out, HT.out]
            replace c0 := cell_later hb c0
            replace c1 := cell_later hb c1
            replace c2 := cell_later hb c2
            have b0 := block_of_cell c0
            have b1 := block_of_cell c1
            have b2 := block_of_cell c2
            replace HB := Lib.hid (HB.out.trans hb); clear hb
            go_wp2_with (fail)
            go_quiet (fail)
            go_wp2_with (fail)
            go_roundw
            case rel => exact ⟨k + 1, ⟨R.toArray⟩, hlt, by go_num, rfl, by rw [HRR2.out], (HB.out.alloc _).drewN _⟩
            case measure => simp [intOf]; omega
          · have hrs : r = s := by
              have h1 := HR.out
              rw [List.drop_of_length_le (by omega)] at h1
              have h2 : r.data.toList = s.data.toList := h1
              rw [← ba_list r, h2, ba_list]
            subst hrs
            clear HR
            go_wp2_with (fail)
            refine (take_any r _ (by omega) (HS.out.bel HB.out)).mono ?_
            rintro e w7 ⟨rfl, hb⟩
            replace HB := Lib.hid (HB.out.trans hb); clear hb
            cases hrd : readL r.data.toList with
            | none =>
              have HT : Hid (takeV none = .tuple #[.agg #[.int .i64 0, .int .i64 0, .string ⟨#[]⟩], .string ⟨#[]⟩, .int .i64 8]) := Lib.hid rfl
              rw [HT.out]
              go_wp2_with (fail)
              go_ret
              exact ⟨rfl, HB.out.alloc _⟩
            | some q =>
              obtain ⟨v, rest⟩ := q
              obtain ⟨hvr, hvi, hve⟩ := read_some _ _ _ hrd
              have HT : Hid (takeV (some (v, rest)) = .tuple #[.agg #[.int .i64 v.k, .int .i64 v.n, .string v.s], .string ⟨rest.toArray⟩, .int .i64 0]) := Lib.hid rfl
              have hvs := right_size v hvr
              have HP := Lib.hid (show putV v = .tuple #[.string ⟨(encL v).toArray⟩, .int .i64 0] by unfold putV; rw [if_pos hvr])
              have hel := enc_len v hvr
              have hlen := congrArg List.length hve
              rw [List.length_append, hsl] at hlen
              have HE := Lib.hid (show (⟨(encL v).toArray⟩ ++ ⟨rest.toArray⟩ : ByteArray) = r by rw [ba_append, hve, ba_list])
              clear hvr hve hrd
              rw [HT.out]
              go_wp2_with (fail)
              refine (put_any v _ hvs hvi (HS.out.bel (HB.out.alloc _))).mono ?_
              rintro e w8 ⟨rfl, hb⟩
              rw [HP.out]
              replace HB := Lib.hid ((HB.out.alloc _).trans hb); clear hb
              generalize encL v = E at *
              have hEq : ((⟨E.toArray⟩ ++ ⟨rest.toArray⟩ : ByteArray).toList == r.toList) = true := by rw [HE.out]; simp
              go_wp2_with (fail)
              go_ret
              exact ⟨ret_bool rfl, HB.out⟩
    · have hl' : ¬ ((s.size : Nat) : Int) ≤ 4000 := by omega
      go_wp2_with (fail)
      go_ret
      exact ⟨rfl, HB.out⟩
end Go.Proofs.YtggmeggfibblhaaDoor
