/- GPKeys, GPVis, laid together. -/
import Derived.Test.YtmdkpomgckkllaaP14
import Derived.Test.YtmdkpomgckkllaaP12
import Derived.Shelf.RegionOpen
import Derived.OwnWalkIn
import Derived.TacticsInMore
import Derived.LoopNIn
import Derived.LoopIn
import Derived.Maps.AppendAt
import Derived.Test.YtmdkpomgckkllaaP16
set_option linter.unusedSimpArgs false
set_option linter.unusedVariables false
/- The program's keys: an iterator over the entries of each key, with a state of its own. -/
set_option maxRecDepth 100000
namespace Go.Proofs.Ytmdkpomgckkllaa
open Go.RowKit Go.Shelf Go.Deep

attribute [local go_sem] Oper.semAt_some

def GR.enc (t : GR) : Array Value := #[.slice t.p t.g.length t.c]
set_option maxHeartbeats 1000000 in
theorem keys_in (n : Nat) (p : Option Addr) (m c : Nat) (w : World) :
    CallsIn Fence.wide n Try.prog 28 #[.slice p m c] w fun e w' => e = .returned (.func (.func 41) #[] #[.pointer (some ⟨w.heap.size, 0, none⟩)]) ∧ w' = w.alloc (.cells #[.slice p m c] 27) := by
  refine callsIn_of_wp Try.func28 rfl trivial ?_ rfl
  simp only [Try.ntmps28, List.size_toArray, List.length_cons, List.length_nil, Nat.reduceAdd, Nat.reduceSub, Array.replicate_succ, Array.replicate_zero, List.push_toArray, List.append_toArray, List.nil_append, List.cons_append]
  gi_wp2
  go_ret
  exact ⟨rfl, rfl⟩
def lenAt12 (w : World) (b : Nat) : Nat := match w.cell? ⟨b, 0, none⟩ with
  | some (.slice _ n _) => n
  | _ => 0
theorem lenAt_of {w : World} {b n c : Nat} {p : Option Addr} (h : w.cell? ⟨b, 0, none⟩ = some (.slice p n c)) : lenAt12 w b = n := by unfold lenAt12; rw [h]
theorem cut_some (B O c n : Nat) (sp : Option Nat) : cutP (some ⟨B, O, sp⟩) n c 4 = if c = n then some ⟨B, O, sp⟩ else some ((⟨B, O, sp⟩ : Addr).add (n * 4)) := by unfold cutP; rfl
theorem ent_head12 {w : World} {p : Option Addr} {x : EB} {A : List EB} (h : EntsAt w p (x :: A)) : ∃ B O sp, p = some ⟨B, O, sp⟩ ∧ w.cell? ⟨B, O, sp⟩ = some (.string x.k) := by
  obtain ⟨a, ha, B, O, sp, hB, c, -⟩ := h 0 (by simp)
  rw [Nat.zero_mul, show a.add 0 = a from rfl] at hB
  subst hB
  exact ⟨B, O, sp, ha, c⟩
/-- What is left of the row, ahead of the k-th round. -/
def KeyRel (w0 : World) (b : Nat) (p : Option Addr) (c : Nat) (L : List EB) (J : Nat → World → Prop) (x : World) : Prop :=
  ∃ (k : Nat) (q : Option Addr) (d : Nat) (M : List EB), Boxed x b 27 (.slice q M.length d) ∧ EntsAt w0 q M ∧ M.length ≤ d ∧ M.length ≤ L.length ∧ k ≤ (grpsA p c L).length ∧ (grpsA p c L).drop k = grpsA q d M ∧ Below w0.heap.size w0 x ∧ J k x
theorem below_ents {w0 x : World} {q : Option Addr} {M : List EB} (h : EntsAt w0 q M) (hb : Below w0.heap.size w0 x) : EntsAt x q M := h.bel hb
set_option maxHeartbeats 4000000 in
theorem keys_tells (n : Nat) (b : Nat) (p : Option Addr) (c : Nat) (L : List EB) (w0 w : World) (hL : L.length ≤ 10000) (h : EntsAt w0 p L) (hc : L.length ≤ c) (hB : Below w0.heap.size w0 w) (hb : Boxed w b 27 (.slice p L.length c)) (hbn : w0.heap.size ≤ b) (hn : 1 ≤ n) :
    Tells12 n Try.prog 41 #[.pointer (some ⟨b, 0, none⟩)] ((grpsA p c L).map GR.enc) [b] w0.heap.size w := by
  intro l J W hW hJ hY h0
  have HJ := Lib.hid hJ; have HY := Lib.hid hY
  have hb0 : Boxed W b 27 (.slice p L.length c) := (Below.block hW b (Array.getElem?_eq_some_iff.1 hb).1).trans hb
  have H0 := Lib.hid (show KeyRel w0 b p c L J W from ⟨0, p, c, L, hb0, h, hc, Nat.le_refl _, Nat.zero_le _, rfl, hB.trans (Below.mono hW (Below.size hB)), h0⟩)
  have HLEN := Lib.hid (show ((grpsA p c L).map GR.enc).length = (grpsA p c L).length from by simp)
  clear hJ hY h hb h0 hW hb0 hB
  refine callsIn_of_wp Try.func41 rfl trivial ?_ rfl
  simp only [Try.ntmps41, List.size_toArray, List.length_cons, List.length_nil, Nat.reduceAdd, Nat.reduceSub, Array.replicate_succ, Array.replicate_zero, List.push_toArray, List.append_toArray, List.nil_append, List.cons_append]
  gi_wp2
  gi_loopw [4] (fun v wr => KeyRel w0 b p c L J wr) (fun v wr => lenAt12 wr b)
  case atStart => exact H0.out
  case round =>
    clear H0
    obtain ⟨k, q, d, M, hbx, hM, hMd, hML, hk, hgr, hbw, hj⟩ := hrel
    have c0 := hbx.cell
    have HJK := Lib.hid hj; have HM := Lib.hid hM; have HG := Lib.hid hgr; have HBX := Lib.hid hbx; have HBW := Lib.hid hbw
    cases M with
    | nil =>
      have HE := Lib.hid (show J (List.map GR.enc (grpsA p c L)).length wr by
        rw [grpsA_nil] at hgr
        have := congrArg List.length hgr
        rw [List.length_drop, List.length_nil] at this
        rw [HLEN.out, show (grpsA p c L).length = k by omega]
        exact hj)
      clear hj hM hgr hbx hbw
      gi_wp2
      go_end0
      exact ⟨⟨_, rfl⟩, HE.out⟩
    | cons x M =>
      obtain ⟨B, O, sp, rfl, z0⟩ := ent_head12 (below_ents hM hbw)
      obtain ⟨m, hm⟩ : ∃ m, m = M.length + 1 := ⟨_, rfl⟩
      have hlm : (x :: M).length = m := by rw [hm]; rfl
      rw [hlm] at hbx hMd hML c0
      replace HBX := Lib.hid hbx
      obtain ⟨n1, hn1⟩ : ∃ n1, n1 = hdN x M := ⟨_, rfl⟩
      have hn1p : 1 ≤ n1 := by rw [hn1]; exact hdN_pos x M
      have hn1m : n1 ≤ m := by rw [hn1, hm]; exact hdN_le x M
      have hlt : b < wr.heap.size := hbx.lt
      have hmi : (0 : Int) < (m : Int) := by omega
      have HCM := Lib.hid c0
      have HDL := Lib.hid (show ((x :: M).drop n1).length = m - n1 by rw [List.length_drop, hlm])
      have htl : ((x :: M).take n1).length = n1 := by rw [List.length_take, hlm]; omega
      have HDR := Lib.hid (ents_drop hM n1 d (by rw [hlm]; exact hMd))
      have hgk : ∃ h : k < (grpsA p c L).length, (grpsA p c L)[k] = ⟨some ⟨B, O, sp⟩, d, (x :: M).take n1⟩ ∧ (grpsA p c L).drop (k + 1) = grpsA (cutP (some ⟨B, O, sp⟩) n1 d 4) (d - n1) ((x :: M).drop n1) := by
        rw [grpsA_cons, ← hn1] at hgr
        have hkl : k < (grpsA p c L).length := by
          rcases Nat.lt_or_ge k (grpsA p c L).length with h | h
          · exact h
          · rw [List.drop_eq_nil_of_le h] at hgr; cases hgr
        rw [List.drop_eq_getElem_cons hkl] at hgr
        injection hgr with e1 e2
        exact ⟨hkl, e1, e2⟩
      obtain ⟨hkl, hge, hgd⟩ := hgk
      have HK1 := Lib.hid hkl
      have HG1 := Lib.hid hgd
      rw [cut_some] at HDR HG1
      have HYK := Lib.hid (fun (A : World) (hA : J k A) => (show YieldAt Fence.wide (n - 1) Try.prog l #[.slice (some ⟨B, O, sp⟩) n1 d] A (fun e B' => e = .returned (.bool true) ∧ J (k + 1) B' ∧ KeepR w0.heap.size [b] A B') from by
        have := HY.out k (by rw [HLEN.out]; exact hkl) A hA
        rw [List.getElem_map, hge] at this
        unfold GR.enc at this
        rw [htl] at this
        exact this))
      obtain ⟨w1, hw1⟩ : ∃ z, z = wr.alloc (.cells #[.string x.k] 9) := ⟨_, rfl⟩
      have hb1 : Bel wr w1 := by rw [hw1]; exact (Bel.refl wr).alloc _
      have hkc : w1.cell? ⟨wr.heap.size, 0, none⟩ = some (.string x.k) := by
        have h := tnew12 wr (.cells #[.string x.k] 9)
        rw [← hw1] at h
        simp [World.cell?, h]
      have hIX := pidx_any (some ⟨B, O, sp⟩) d (x :: M) 42 (.pointer (some ⟨wr.heap.size, 0, none⟩)) (fun e => !(e.k.toList == x.k.toList)) w1 ((below_ents hM hbw).bel hb1) (by rw [hlm]; omega)
        (fun kv z => run_enter12 Try.func42 rfl rfl _ _) (fun e z hz => pkeyne_any wr.heap.size x.k e z (cl12 hz hkc))
      rw [hlm, show idxF (fun e => !(e.k.toList == x.k.toList)) (x :: M) = n1 from hn1.symm] at hIX
      have HIX := Lib.hid hIX
      have HB1 := Lib.hid hb1
      have HJX := Lib.hid HJ.out
      clear hj hM hgr hbx hbw hgd hge hIX hb1 hkc HM HG hm hlm htl hn1
      gi_wp2
      refine ⟨trivial, ?_⟩
      rw [show (wr.alloc (.cells #[.string x.k] 9)) = w1 from hw1.symm]
      clear hw1
      refine (callsIn_wide.2 HIX.out).mono ?_
      rintro r w2 ⟨rfl, hb2⟩
      have HB2 := Lib.hid (HB1.out.trans hb2)
      have HBX2 := Lib.hid (show Boxed w2 b 27 (.slice (some ⟨B, O, sp⟩) m d) from (Below.block HB2.out b hlt).trans HBX.out)
      have c2 := HBX2.out.cell
      have HBW2 := Lib.hid (HBW.out.trans (Below.mono HB2.out (Below.size HBW.out)))
      have HJ2 := Lib.hid (HJ.out _ _ _ HJK.out (Keep.of_bel HB2.out [b]))
      have hb2lt : b < w2.heap.size := HBX2.out.lt
      have hn0 : (0 : Int) ≤ (n1 : Int) := by omega
      have hnd : (n1 : Int) ≤ (d : Int) := by omega
      have hnm : (n1 : Int) ≤ (m : Int) := by omega
      have hnn : ¬ (n1 : Int) < 0 := by omega
      clear hb2 hlt
      by_cases hlt1 : n1 < m
      · rw [idxI_yes hlt1]
        have hdn : ¬ d = n1 := by omega
        rw [if_neg hdn] at HDR HG1
        obtain ⟨fn, tmps, assign, body, hy, hR⟩ := HYK.out w2 (HJ2.out)
        gi_wp2
        refine hR.mono ?_
        rintro e3 w3 ⟨rfl, hj3, hk3⟩
        have hbx3 : Boxed w3 b 27 (.slice (some ⟨B, O, sp⟩) m d) := hk3.2 b (by simp) _ HBX2.out
        have c3 := hbx3.cell
        have f3 := hbx3.frozen
        have HJ3 := Lib.hid hj3
        have HX3 := Lib.hid hbx3
        have HB3 := Lib.hid (HBW2.out.trans hk3.1)
        clear hj3 hk3 hbx3 hy
        gi_wp2
        go_roundw
        case rel => exact ⟨k + 1, _, d - n1, (x :: M).drop n1, by rw [HDL.out]; exact HX3.out.set _, HDR.out, by rw [HDL.out]; omega, by rw [HDL.out]; omega, HK1.out, HG1.out, HB3.out.setCell (p := ⟨b, 0, none⟩) hbn _, HJX.out _ _ _ HJ3.out ((Keep.refl [b] w3).setCell (p := ⟨b, 0, none⟩) (.inl (by simp)) _)⟩
        case measure => rw [lenAt_of HCM.out, lenAt_of (HX3.out.set _).cell]; omega
      · rw [idxI_no hlt1]
        obtain rfl : n1 = m := by omega
        obtain ⟨fn, tmps, assign, body, hy, hR⟩ := HYK.out w2 (HJ2.out)
        gi_wp2
        refine hR.mono ?_
        rintro e3 w3 ⟨rfl, hj3, hk3⟩
        have hbx3 : Boxed w3 b 27 (.slice (some ⟨B, O, sp⟩) n1 d) := hk3.2 b (by simp) _ HBX2.out
        have c3 := hbx3.cell
        have f3 := hbx3.frozen
        have HJ3 := Lib.hid hj3
        have HX3 := Lib.hid hbx3
        have HB3 := Lib.hid (HBW2.out.trans hk3.1)
        clear hj3 hk3 hbx3 hy
        gi_wp2
        go_roundw
        case rel => exact ⟨k + 1, _, d - n1, (x :: M).drop n1, by rw [HDL.out, Nat.sub_self]; exact HX3.out.set _, HDR.out, by rw [HDL.out]; omega, by rw [HDL.out]; omega, HK1.out, HG1.out, HB3.out.setCell (p := ⟨b, 0, none⟩) hbn _, HJX.out _ _ _ HJ3.out ((Keep.refl [b] w3).setCell (p := ⟨b, 0, none⟩) (.inl (by simp)) _)⟩
        case measure => rw [lenAt_of HCM.out, lenAt_of (HX3.out.set _).cell]; omega
end Go.Proofs.Ytmdkpomgckkllaa
/- The program's Visible: a loop over the entries of each key. -/
set_option maxRecDepth 100000
namespace Go.Proofs.Ytmdkpomgckkllaa
open Go.RowKit Go.Shelf Go.Deep

attribute [local go_sem] Oper.semAt_some

theorem boxed_keep {W W' : World} {F : List Nat} {B : Nat} {t : TypeId} {v : Value} (h : Boxed W B t v) (hk : Keep F W W') (hB : B ∉ F) : Boxed W' B t v := hk.at h hB
theorem own_block_ge {B : Nat} {w : World} {v : Value} {L : List EB} (h : OwnG entEl B w v L) : ∀ x ∈ v.ownBlock.toList, B ≤ x := fun x hx => (h.lt x (by rwa [Option.mem_toList] at hx)).1
theorem flat_snoc12 {α : Type} (gs : List α) (f : α → List EB) {k : Nat} (hk : k < gs.length) : ((gs.take (k + 1)).map f).flatten = ((gs.take k).map f).flatten ++ f gs[k] := by
  rw [List.take_add_one, List.getElem?_eq_getElem hk, Option.toList_some, List.map_append, List.flatten_append]; simp
/-- What holds ahead of the k-th round: what has been seen lies in its box. -/
def VisI (n0 D bA bS : Nat) (w : World) (s : Int) (gs : List GR) (k : Nat) (W : World) : Prop :=
  ∃ v, Boxed W bA 3 (.int .i64 s) ∧ Boxed W bS 27 v ∧ OwnG entEl (D + 2) W v (((gs.take k).map (fun t => vis1 s t.g)).flatten) ∧ Below n0 w W ∧ D + 2 ≤ W.heap.size
theorem vis1_len (s : Int) (g : List EB) : (vis1 s g).length ≤ 1 := by
  unfold vis1
  split
  · simp
  · split <;> simp
theorem vis1_no {s : Int} {g : List EB} (h : ¬ idxF (fun e => decide (e.q ≤ s)) g < g.length) : vis1 s g = [] := by
  unfold vis1
  rw [List.drop_eq_nil_of_le (by omega)]
theorem vis1_yes {s : Int} {g : List EB} {i : Nat} (hi : idxF (fun e => decide (e.q ≤ s)) g = i) (h : i < g.length) : vis1 s g = if g[i].d = true then [] else [g[i]] := by
  unfold vis1
  rw [hi, List.drop_eq_getElem_cons h]
theorem flat_len12 {α : Type} (gs : List α) (f : α → List EB) (m : Nat) (h : ∀ t ∈ gs, (f t).length ≤ m) : ((gs.map f).flatten).length ≤ gs.length * m := by
  induction gs with
  | nil => simp
  | cons t gs ih =>
    have h1 := h t (by simp)
    have h2 := ih (fun t ht => h t (by simp [ht]))
    simp only [List.map_cons, List.flatten_cons, List.length_append, List.length_cons, Nat.add_mul]
    omega
set_option maxHeartbeats 4000000 in
theorem pvis_any (p : Option Addr) (cap : Nat) (L : List EB) (s : Int) (w : World) (h : EntsAt w p L) (hc : L.length ≤ cap) (hS : Srt L) (hL : L.length ≤ 1000) :
    Calls Try.prog 14 #[.slice p L.length cap, .int .i64 s] w fun r w' => ∃ v, r = .returned v ∧ OwnG entEl w.heap.size w' v (visL s L) ∧ Bel w w' := by
  have HV := Lib.hid (vis_grps (s := s) _ p cap L (Nat.le_refl _) hS)
  have HAT := Lib.hid (grps_at _ p cap L (Nat.le_refl _) h hc)
  have hgl := grps_len _ p cap L (Nat.le_refl _)
  have HE := Lib.hid h
  have HC := Lib.hid hc
  clear h hc hS
  refine (callsIn_wide (n := 9)).1 ?_
  refine callsIn_of_wp_marks Try.func14 rfl trivial ?_ rfl
  simp only [Try.ntmps14, List.size_toArray, List.length_cons, List.length_nil, Nat.reduceAdd, Nat.reduceSub, Array.replicate_succ, Array.replicate_zero, List.push_toArray, List.append_toArray, List.nil_append, List.cons_append]
  gi_wp2
  refine ⟨trivial, ?_⟩
  refine (keys_in _ p L.length cap _).mono ?_
  rintro e1 w1 ⟨rfl, hw1⟩
  gi_wp2
  rw [← hw1]
  have x0 : Boxed w1 w.heap.size 3 (.int .i64 s) := by rw [hw1]; exact ((Boxed.new w _ _).alloc _).alloc _
  have x1 : Boxed w1 (w.heap.size + 1) 27 (.slice none 0 0) := by
    have h := (Boxed.new (w.alloc (.cells #[.int .i64 s] 3)) 27 (.slice none 0 0)).alloc (.cells #[.slice p L.length cap] 27)
    rw [World.size_alloc] at h
    rw [hw1]; exact h
  have x2 : Boxed w1 (w.heap.size + 1 + 1) 27 (.slice p L.length cap) := by
    have h := Boxed.new ((w.alloc (.cells #[.int .i64 s] 3)).alloc (.cells #[.slice none 0 0] 27)) 27 (.slice p L.length cap)
    rw [World.size_alloc, World.size_alloc] at h
    rw [hw1]; exact h
  have hbw1 : Bel w w1 := by rw [hw1]; exact (((Bel.refl w).alloc _).alloc _).alloc _
  have hsz1 : w.heap.size + 3 ≤ w1.heap.size := by rw [hw1]; simp
  have HT := keys_tells (9 - 1) (w.heap.size + 1 + 1) p cap L w w1 (by omega) HE.out HC.out hbw1 x2 (by omega) (by omega)
  have HX0 := Lib.hid x0; have HX1 := Lib.hid x1; have HBW1 := Lib.hid hbw1
  have HSZ := Lib.hid hsz1
  have HSB0 := Lib.hid (show w.heap.size ≤ w1.heap.size by omega)
  clear hw1 x0 x1 x2 hbw1
  obtain ⟨gs, hgs⟩ : ∃ gs, gs = grpsA p cap L := ⟨_, rfl⟩
  rw [← hgs] at HT HV HAT hgl
  clear hgs HE HC
  refine range12 (by omega) (gf := 41) (lb := #[.pointer (some ⟨w.heap.size + 1 + 1, 0, none⟩)]) rfl (run_enter12 Try.func41 rfl rfl) HT (Bel.refl w1) (fun b hb => by rw [List.mem_singleton] at hb; omega) HSB0.out (fun k h => by rw [List.getElem_map]; rfl)
    (fun k W => VisI w.heap.size w1.heap.size w.heap.size (w.heap.size + 1) w s gs k W) ?hI ?h0 ?round ?done
  case hI =>
    rintro k A B ⟨v, h1, h2, h3, h4, h5⟩ hk
    have hF : ∀ x ∈ (w1.heap.size :: (w1.heap.size + 1) :: [w.heap.size + 1 + 1]), x = w1.heap.size ∨ x = w1.heap.size + 1 ∨ x = w.heap.size + 2 := fun x hx => by simpa using hx
    refine ⟨v, boxed_keep h1 hk (fun hm => by have := hF _ hm; omega), boxed_keep h2 hk (fun hm => by have := hF _ hm; omega), h3.keep hk (fun x hx hm => ?_), h4.trans (hk.below (Below.size h4) (fun x hx => by have := hF _ hx; omega)), Nat.le_trans h5 hk.size⟩
    have h6 := (h3.lt x hx).1
    have := hF _ hm
    omega
  case h0 =>
    intro W1 hb hsz
    exact ⟨_, boxed_keep HX0.out (Keep.of_bel hb []) (by simp), boxed_keep HX1.out (Keep.of_bel hb []) (by simp), OwnG.nil _ _ _, HBW1.out.trans hb, hsz⟩
  case round =>
    intro l k hk A hI hAsz
    have hk' : k < gs.length := by simpa using hk
    rw [show (gs.map GR.enc)[k] = #[.slice gs[k].p gs[k].g.length gs[k].c] from by rw [List.getElem_map]; rfl]
    have HI := Lib.hid hI
    have HNX := Lib.hid (flat_snoc12 gs (fun t => vis1 s t.g) hk')
    have HATK := Lib.hid (HAT.out gs[k] (List.getElem_mem hk'))
    have HFL := Lib.hid (flat_len12 (gs.take k) (fun t => vis1 s t.g) 1 (fun t _ => vis1_len s t.g))
    have hkl : (gs.take k).length = k := by rw [List.length_take]; omega
    generalize gs[k] = t at *
    obtain ⟨tp, tc, g⟩ := t
    obtain ⟨hg1, hg2, hg3, hg4⟩ := HATK.out
    dsimp only at hg1 hg2 hg3 hg4
    have HG1 := Lib.hid hg1
    clear hI hk HAT HATK hg1 hg2 hg4
    gi_wp2
    refine ⟨Bel.refl A, fun A2 hA2 => ?_⟩
    obtain ⟨v, h1, h2, h3, h4, h5⟩ := HI.out
    have HA0 := Lib.hid (show Boxed A2 w.heap.size 3 (.int .i64 s) from boxed_keep h1 hA2 (by simp; omega))
    have HS0 := Lib.hid (show Boxed A2 (w.heap.size + 1) 27 v from boxed_keep h2 hA2 (by simp; omega))
    have HO0 := Lib.hid (show OwnG entEl (w1.heap.size + 2) A2 v ((gs.take k).map (fun t => vis1 s t.g)).flatten from h3.keep hA2 (fun x hx hm => by
      have h6 := (h3.lt x hx).1
      rw [List.mem_singleton] at hm; omega))
    have HBA := Lib.hid (show Below w.heap.size w A2 from h4.trans (hA2.below (Below.size h4) (fun x hx => by rw [List.mem_singleton] at hx; omega)))
    have HSA := Lib.hid (Nat.le_trans h5 hA2.size)
    have hle := HFL.out
    rw [hkl] at hle
    obtain ⟨C, hC⟩ : ∃ C, C = ((gs.take k).map (fun t => vis1 s t.g)).flatten := ⟨_, rfl⟩
    rw [← hC] at HO0 HNX hle
    have hCl : C.length ≤ 1000 := by omega
    clear h1 h2 h3 h4 h5 hA2 HI HFL hle hkl hC hAsz
    have hIX := pidx_any tp tc g 30 (.pointer (some ⟨w.heap.size, 0, none⟩)) (fun e => decide (e.q ≤ s)) A2 (HG1.out.bel HBA.out) (by omega)
      (fun kv z => run_enter12 Try.func30 rfl rfl _ _) (fun e z hz => pseqle_any w.heap.size s e z (cl12 hz HA0.out.cell))
    obtain ⟨i, hi⟩ : ∃ i, i = idxF (fun e => decide (e.q ≤ s)) g := ⟨_, rfl⟩
    rw [← hi] at hIX
    have HIX := Lib.hid hIX
    clear hIX
    gi_wp2
    refine ⟨trivial, ?_⟩
    refine (callsIn_wide.2 HIX.out).mono ?_
    rintro r w2 ⟨rfl, hb2⟩
    have HB2 := Lib.hid hb2
    have HA2 := Lib.hid (show Boxed w2 w.heap.size 3 (.int .i64 s) from boxed_keep HA0.out (Keep.of_bel hb2 []) (by simp))
    have HS2 := Lib.hid (show Boxed w2 (w.heap.size + 1) 27 v from boxed_keep HS0.out (Keep.of_bel hb2 []) (by simp))
    have HO2 := Lib.hid (HO0.out.bel hb2)
    have HSZ2 := Lib.hid (show w1.heap.size + 2 ≤ A2.heap.size from HSA.out)
    have HSB := Lib.hid (show w.heap.size ≤ A2.heap.size from Below.size HBA.out)
    have HBW2 := HBA
    have HG2 := Lib.hid ((HG1.out.bel HBA.out).bel hb2)
    clear hb2 HIX HA0 HS0 HO0
    have hend : Keep [] A2 w2 := Keep.of_bel HB2.out []
    have HEND := Lib.hid (show ∀ C', C' = C → RoundEnd w1.heap.size w.heap.size [w.heap.size + 1 + 1] A2 (fun W => ∃ v, Boxed W w.heap.size 3 (.int .i64 s) ∧ Boxed W (w.heap.size + 1) 27 v ∧ OwnG entEl (w1.heap.size + 2) W v C' ∧ Below w.heap.size w W ∧ w1.heap.size + 2 ≤ W.heap.size) .normal { tmps := #[], defers := [] } w2 from fun C' hC' => by
      subst hC'
      exact ⟨⟨[], hend, fun x hx => by cases hx⟩, v, HA2.out, HS2.out, HO2.out, HBW2.out.trans (hend.below HSB.out (fun x hx => by cases hx)), Nat.le_trans HSZ2.out HB2.out.size⟩)
    clear hend
    by_cases hil : i < g.length
    · obtain ⟨a, ha0, -⟩ := HG2.out i hil
      subst ha0
      obtain ⟨B, O, sp, ha, z0, z1, z2, z3⟩ := ent_at12 HG2.out hil
      have hV := vis1_yes hi.symm hil
      have hii : (i : Int) < (g.length : Int) := by omega
      have hi0 : (0 : Int) ≤ (i : Int) := by omega
      rw [idxI_yes hil]
      generalize g[i] = e0 at *
      cases hd : e0.d with
      | true =>
        have HNXT := Lib.hid (show (List.map (fun t => vis1 s t.g) (List.take (k + 1) gs)).flatten = C by rw [HNX.out, hV, if_pos hd, List.append_nil])
        rw [hd] at z2
        clear hV hd hi HNX
        gi_wp2
        exact HEND.out _ HNXT.out
      | false =>
        have HNXT := Lib.hid (show (List.map (fun t => vis1 s t.g) (List.take (k + 1) gs)).flatten = C ++ [e0] by rw [HNX.out, hV, if_neg (by rw [hd]; simp)])
        have HDD := Lib.hid hd
        have c5 := HS2.out.cell
        rw [hd] at z2
        clear hV hi HNX HEND
        gi_wp2
        refine wpIn_mono (Q := Exit.then ?K (fun _ _ _ => False)) ?r (fun e a w h => ?m)
        case m =>
          cases e with
          | normal => exact h
          | _ => exact h.elim
        refine wpIn_region_any (by kernel_rfl) ?_
        refine wpAnyIn_round rfl (by kernel_rfl) _ _ _ _ ?_
        change wpAnyIn _ _ _ _ _ _ _ _ _ (World.drew _)
        refine wpAnyIn_take (i := 1) (oi := { dst := some 25, op := Op.move (Operand.tmp 6), type := 27, pos := "merge.go:23", after := #[], guard := none }) (v := ?_) rfl rfl (by kernel_rfl) (by kernel_rfl) (by kernel_rfl) (fun _ _ _ h => h) ⟨Or.inl ⟨by rfl, ?_⟩, fun _ => rfl⟩ ?_
        rotate_left
        · (intro w; first | (go_simp; done) | (go_simp; with_reducible rfl))
        try simp only [Act.put, List.setIfInBounds_toArray, List.set_cons_zero, List.set_cons_succ]
        refine wpAnyIn_take (i := 2) (oi := { dst := some 26, op := Op.move (Operand.tmp 7), type := 3, pos := "merge.go:23", after := #[], guard := none }) (v := ?_) rfl rfl (by kernel_rfl) (by kernel_rfl) (by kernel_rfl) (fun _ _ _ h => h) ⟨Or.inl ⟨by rfl, ?_⟩, fun _ => rfl⟩ ?_
        rotate_left
        · (intro w; first | (go_simp; done) | (go_simp; with_reducible rfl))
        try simp only [Act.put, List.setIfInBounds_toArray, List.set_cons_zero, List.set_cons_succ]
        refine wpAnyIn_take (i := 3) (oi := { dst := some 27, op := Op.indexAddr 27 (Operand.tmp 25) (Operand.tmp 26), type := 0, pos := "merge.go:23", after := #[{ on := 1, ground := Ground.data }, { on := 2, ground := Ground.data }], guard := none }) (v := ?_) rfl rfl (by kernel_rfl) (by kernel_rfl) (by kernel_rfl) (fun _ _ _ h => h) ⟨Or.inl ⟨by rfl, ?_⟩, fun _ => rfl⟩ ?_
        rotate_left
        · (intro w; first | (go_simp; done) | (go_simp; with_reducible rfl))
        try simp only [Act.put, List.setIfInBounds_toArray, List.set_cons_zero, List.set_cons_succ]
        refine wpAnyIn_ready (rs := [0, 4]) (by kernel_rfl) (by simp) ?_
        refine (AllReadyIn.cons (o := { dst := some 24, op := Op.load 27 (Operand.tmp 5), type := 27, pos := "merge.go:23", after := #[], guard := none }) rfl (fun K hK => ?_) (AllReadyIn.cons (o := { dst := some 28, op := Op.load 36 (Operand.tmp 27), type := 36, pos := "merge.go:23", after := #[{ on := 3, ground := Ground.data }], guard := none }) rfl (fun K hK => ?_) AllReadyIn.nil))
        · go_simp
          refine hK _ _ ?_
          clear hK K
          try simp only [Act.put, List.setIfInBounds_toArray, List.set_cons_zero, List.set_cons_succ]
          refine wpAnyIn_ready (rs := [4]) (by kernel_rfl) (by simp) ?_
          refine (AllReadyIn.cons (o := { dst := some 28, op := Op.load 36 (Operand.tmp 27), type := 36, pos := "merge.go:23", after := #[{ on := 3, ground := Ground.data }], guard := none }) rfl (fun K hK => ?_) AllReadyIn.nil)
          go_simp
          refine hK _ _ ?_
          clear hK K
          try simp only [Act.put, List.setIfInBounds_toArray, List.set_cons_zero, List.set_cons_succ]
          refine wpAnyIn_ready (rs := [5]) (by kernel_rfl) (by simp) ?_
          refine (AllReadyIn.cons (o := { dst := some 29, op := Op.buildSlice 27 1 #[(0, Operand.tmp 28)], type := 27, pos := "merge.go:23", after := #[{ on := 4, ground := Ground.data }], guard := none }) rfl (fun K hK => ?_) AllReadyIn.nil)
          go_simp
          refine hK _ _ ?_
          clear hK K
          try simp only [Act.put, List.setIfInBounds_toArray, List.set_cons_zero, List.set_cons_succ]
          obtain ⟨w3, hw3⟩ : ∃ z, z = (w2.alloc (.cells #[.string e0.k, .int .i64 e0.q, .bool false, .string e0.v] 36)).drew := ⟨_, rfl⟩
          have hb3 : Bel w2 w3 := by rw [hw3]; exact ((Bel.refl w2).alloc _).drew
          have HLIT := Lib.hid (show w3.heap[w2.heap.size]? = some (.cells #[.string e0.k, .int .i64 e0.q, .bool false, .string e0.v] 36 (0, 0)) by rw [hw3]; exact tnew12 w2 (.cells #[.string e0.k, .int .i64 e0.q, .bool false, .string e0.v] 36))
          have HO3 := Lib.hid (HO2.out.bel hb3)
          have HS3 := Lib.hid (show Boxed w3 (w.heap.size + 1) 27 v from boxed_keep HS2.out (Keep.of_bel hb3 []) (by simp))
          have HA3 := Lib.hid (show Boxed w3 w.heap.size 3 (.int .i64 s) from boxed_keep HA2.out (Keep.of_bel hb3 []) (by simp))
          have HB3 := Lib.hid (HB2.out.trans hb3)
          have c5 := HS3.out.cell
          rw [← hw3]
          clear hw3 hb3
          refine wpAnyIn_ready (rs := [6]) (by kernel_rfl) (by simp) ?_
          refine (AllReadyIn.cons (o := { dst := some 30, op := Op.call { callee := Callee.builtin Builtin.append, args := #[Operand.tmp 24, Operand.tmp 29], argTypes := #[27, 27] }, type := 27, pos := "merge.go:23", after := #[{ on := 0, ground := Ground.data }, { on := 5, ground := Ground.data }], guard := none }) rfl (fun K hK => ?_) AllReadyIn.nil)
          refine stepIn_append_all entOk rfl (.tmp 24) (.tmp 29) rfl rfl HO3.out [e0] rfl (src_at [e0] HLIT.out (by rw [show El.all entEl [e0] = [.string e0.k, .int .i64 e0.q, .bool e0.d, .string e0.v] from rfl, HDD.out]) rfl) (by simp only [List.length_singleton]; unfold maxLen; omega) (by simp only [List.length_singleton]; omega) (Nat.le_trans HSZ2.out HB3.out.size) ?_
          intro v4 w4 ho4 hk4 _
          obtain ⟨p4, c4, hv4⟩ := ownG_len ho4
          generalize (C ++ [e0]).length = m4 at hv4
          subst hv4
          refine hK _ _ ?_
          clear hK K
          try simp only [Act.put, List.setIfInBounds_toArray, List.set_cons_zero, List.set_cons_succ]
          have HO4 := Lib.hid ho4
          have HK4 := Lib.hid (show Keep v.ownBlock.toList w3 w4 from hk4)
          have hnb : ∀ x ∈ v.ownBlock.toList, w1.heap.size + 2 ≤ x := own_block_ge HO3.out
          have HS4 := Lib.hid (show Boxed w4 (w.heap.size + 1) 27 v from boxed_keep HS3.out hk4 (fun hm => by have := hnb _ hm; omega))
          have HA4 := Lib.hid (show Boxed w4 w.heap.size 3 (.int .i64 s) from boxed_keep HA3.out hk4 (fun hm => by have := hnb _ hm; omega))
          have c6 := HS4.out.cell
          have f6 := HS4.out.frozen
          clear ho4 hk4
          refine wpAnyIn_ready (rs := [7]) (by kernel_rfl) (by simp) ?_
          refine (AllReadyIn.cons (o := { dst := none, op := Op.store 27 (Operand.tmp 5) (Operand.tmp 30), type := 0, pos := "merge.go:23", after := #[{ on := 6, ground := Ground.data }, { on := 6, ground := Ground.chain }, { on := 0, ground := Ground.phase }, { on := 1, ground := Ground.phase }, { on := 2, ground := Ground.phase }, { on := 3, ground := Ground.phase }, { on := 4, ground := Ground.phase }, { on := 5, ground := Ground.phase }, { on := 6, ground := Ground.phase }], guard := none }) rfl (fun K hK => ?_) AllReadyIn.nil)
          go_simp
          refine hK _ _ ?_
          clear hK K
          try simp only [Act.put, List.setIfInBounds_toArray, List.set_cons_zero, List.set_cons_succ]
          refine wpAnyIn_done (by kernel_rfl) ?_ _
          gi_wp2
          have hkk : Keep ((w.heap.size + 1) :: v.ownBlock.toList) A2 (w4.setCell ⟨w.heap.size + 1, 0, none⟩ (.slice p4 m4 c4)) :=
            ((((Keep.of_bel HB3.out ((w.heap.size + 1) :: v.ownBlock.toList)).trans HK4.out (fun x hx => .inl (by simp [hx]))))).setCell (p := ⟨w.heap.size + 1, 0, none⟩) (.inl (by simp)) _
          refine ⟨⟨_, hkk, fun x hx => ?_⟩, ⟨_, HA4.out.other (by omega) _, HS4.out.set _, ?_, HBW2.out.trans (hkk.below HSB.out (fun x hx => ?_)), Nat.le_trans HSZ2.out hkk.size⟩⟩
          · rcases List.mem_cons.1 hx with rfl | hx
            · exact ⟨by omega, by simp, by omega, by omega⟩
            · have := hnb x hx
              exact ⟨by omega, by simp; omega, by omega, by omega⟩
          · rw [HNXT.out]
            exact HO4.out.setCell (p := ⟨w.heap.size + 1, 0, none⟩) (by show w.heap.size + 1 < w1.heap.size + 2; omega) _
          · rcases List.mem_cons.1 hx with rfl | hx
            · omega
            · have := hnb x hx; omega
        · go_simp
          refine hK _ _ ?_
          clear hK K
          try simp only [Act.put, List.setIfInBounds_toArray, List.set_cons_zero, List.set_cons_succ]
          refine wpAnyIn_ready (rs := [0, 5]) (by kernel_rfl) (by simp) ?_
          refine (AllReadyIn.cons (o := { dst := some 24, op := Op.load 27 (Operand.tmp 5), type := 27, pos := "merge.go:23", after := #[], guard := none }) rfl (fun K hK => ?_) (AllReadyIn.cons (o := { dst := some 29, op := Op.buildSlice 27 1 #[(0, Operand.tmp 28)], type := 27, pos := "merge.go:23", after := #[{ on := 4, ground := Ground.data }], guard := none }) rfl (fun K hK => ?_) AllReadyIn.nil))
          · go_simp
            refine hK _ _ ?_
            clear hK K
            try simp only [Act.put, List.setIfInBounds_toArray, List.set_cons_zero, List.set_cons_succ]
            refine wpAnyIn_ready (rs := [5]) (by kernel_rfl) (by simp) ?_
            refine (AllReadyIn.cons (o := { dst := some 29, op := Op.buildSlice 27 1 #[(0, Operand.tmp 28)], type := 27, pos := "merge.go:23", after := #[{ on := 4, ground := Ground.data }], guard := none }) rfl (fun K hK => ?_) AllReadyIn.nil)
            go_simp
            refine hK _ _ ?_
            clear hK K
            try simp only [Act.put, List.setIfInBounds_toArray, List.set_cons_zero, List.set_cons_succ]
            obtain ⟨w3, hw3⟩ : ∃ z, z = (w2.alloc (.cells #[.string e0.k, .int .i64 e0.q, .bool false, .string e0.v] 36)).drew := ⟨_, rfl⟩
            have hb3 : Bel w2 w3 := by rw [hw3]; exact ((Bel.refl w2).alloc _).drew
            have HLIT := Lib.hid (show w3.heap[w2.heap.size]? = some (.cells #[.string e0.k, .int .i64 e0.q, .bool false, .string e0.v] 36 (0, 0)) by rw [hw3]; exact tnew12 w2 (.cells #[.string e0.k, .int .i64 e0.q, .bool false, .string e0.v] 36))
            have HO3 := Lib.hid (HO2.out.bel hb3)
            have HS3 := Lib.hid (show Boxed w3 (w.heap.size + 1) 27 v from boxed_keep HS2.out (Keep.of_bel hb3 []) (by simp))
            have HA3 := Lib.hid (show Boxed w3 w.heap.size 3 (.int .i64 s) from boxed_keep HA2.out (Keep.of_bel hb3 []) (by simp))
            have HB3 := Lib.hid (HB2.out.trans hb3)
            have c5 := HS3.out.cell
            rw [← hw3]
            clear hw3 hb3
            refine wpAnyIn_ready (rs := [6]) (by kernel_rfl) (by simp) ?_
            refine (AllReadyIn.cons (o := { dst := some 30, op := Op.call { callee := Callee.builtin Builtin.append, args := #[Operand.tmp 24, Operand.tmp 29], argTypes := #[27, 27] }, type := 27, pos := "merge.go:23", after := #[{ on := 0, ground := Ground.data }, { on := 5, ground := Ground.data }], guard := none }) rfl (fun K hK => ?_) AllReadyIn.nil)
            refine stepIn_append_all entOk rfl (.tmp 24) (.tmp 29) rfl rfl HO3.out [e0] rfl (src_at [e0] HLIT.out (by rw [show El.all entEl [e0] = [.string e0.k, .int .i64 e0.q, .bool e0.d, .string e0.v] from rfl, HDD.out]) rfl) (by simp only [List.length_singleton]; unfold maxLen; omega) (by simp only [List.length_singleton]; omega) (Nat.le_trans HSZ2.out HB3.out.size) ?_
            intro v4 w4 ho4 hk4 _
            obtain ⟨p4, c4, hv4⟩ := ownG_len ho4
            generalize (C ++ [e0]).length = m4 at hv4
            subst hv4
            refine hK _ _ ?_
            clear hK K
            try simp only [Act.put, List.setIfInBounds_toArray, List.set_cons_zero, List.set_cons_succ]
            have HO4 := Lib.hid ho4
            have HK4 := Lib.hid (show Keep v.ownBlock.toList w3 w4 from hk4)
            have hnb : ∀ x ∈ v.ownBlock.toList, w1.heap.size + 2 ≤ x := own_block_ge HO3.out
            have HS4 := Lib.hid (show Boxed w4 (w.heap.size + 1) 27 v from boxed_keep HS3.out hk4 (fun hm => by have := hnb _ hm; omega))
            have HA4 := Lib.hid (show Boxed w4 w.heap.size 3 (.int .i64 s) from boxed_keep HA3.out hk4 (fun hm => by have := hnb _ hm; omega))
            have c6 := HS4.out.cell
            have f6 := HS4.out.frozen
            clear ho4 hk4
            refine wpAnyIn_ready (rs := [7]) (by kernel_rfl) (by simp) ?_
            refine (AllReadyIn.cons (o := { dst := none, op := Op.store 27 (Operand.tmp 5) (Operand.tmp 30), type := 0, pos := "merge.go:23", after := #[{ on := 6, ground := Ground.data }, { on := 6, ground := Ground.chain }, { on := 0, ground := Ground.phase }, { on := 1, ground := Ground.phase }, { on := 2, ground := Ground.phase }, { on := 3, ground := Ground.phase }, { on := 4, ground := Ground.phase }, { on := 5, ground := Ground.phase }, { on := 6, ground := Ground.phase }], guard := none }) rfl (fun K hK => ?_) AllReadyIn.nil)
            go_simp
            refine hK _ _ ?_
            clear hK K
            try simp only [Act.put, List.setIfInBounds_toArray, List.set_cons_zero, List.set_cons_succ]
            refine wpAnyIn_done (by kernel_rfl) ?_ _
            gi_wp2
            have hkk : Keep ((w.heap.size + 1) :: v.ownBlock.toList) A2 (w4.setCell ⟨w.heap.size + 1, 0, none⟩ (.slice p4 m4 c4)) :=
              ((((Keep.of_bel HB3.out ((w.heap.size + 1) :: v.ownBlock.toList)).trans HK4.out (fun x hx => .inl (by simp [hx]))))).setCell (p := ⟨w.heap.size + 1, 0, none⟩) (.inl (by simp)) _
            refine ⟨⟨_, hkk, fun x hx => ?_⟩, ⟨_, HA4.out.other (by omega) _, HS4.out.set _, ?_, HBW2.out.trans (hkk.below HSB.out (fun x hx => ?_)), Nat.le_trans HSZ2.out hkk.size⟩⟩
            · rcases List.mem_cons.1 hx with rfl | hx
              · exact ⟨by omega, by simp, by omega, by omega⟩
              · have := hnb x hx
                exact ⟨by omega, by simp; omega, by omega, by omega⟩
            · rw [HNXT.out]
              exact HO4.out.setCell (p := ⟨w.heap.size + 1, 0, none⟩) (by show w.heap.size + 1 < w1.heap.size + 2; omega) _
            · rcases List.mem_cons.1 hx with rfl | hx
              · omega
              · have := hnb x hx; omega
          · go_simp
            refine hK _ _ ?_
            clear hK K
            try simp only [Act.put, List.setIfInBounds_toArray, List.set_cons_zero, List.set_cons_succ]
            obtain ⟨w3, hw3⟩ : ∃ z, z = (w2.alloc (.cells #[.string e0.k, .int .i64 e0.q, .bool false, .string e0.v] 36)).drew := ⟨_, rfl⟩
            have hb3 : Bel w2 w3 := by rw [hw3]; exact ((Bel.refl w2).alloc _).drew
            have HLIT := Lib.hid (show w3.heap[w2.heap.size]? = some (.cells #[.string e0.k, .int .i64 e0.q, .bool false, .string e0.v] 36 (0, 0)) by rw [hw3]; exact tnew12 w2 (.cells #[.string e0.k, .int .i64 e0.q, .bool false, .string e0.v] 36))
            have HO3 := Lib.hid (HO2.out.bel hb3)
            have HS3 := Lib.hid (show Boxed w3 (w.heap.size + 1) 27 v from boxed_keep HS2.out (Keep.of_bel hb3 []) (by simp))
            have HA3 := Lib.hid (show Boxed w3 w.heap.size 3 (.int .i64 s) from boxed_keep HA2.out (Keep.of_bel hb3 []) (by simp))
            have HB3 := Lib.hid (HB2.out.trans hb3)
            have c5 := HS3.out.cell
            rw [← hw3]
            clear hw3 hb3
            refine wpAnyIn_ready (rs := [0]) (by kernel_rfl) (by simp) ?_
            refine (AllReadyIn.cons (o := { dst := some 24, op := Op.load 27 (Operand.tmp 5), type := 27, pos := "merge.go:23", after := #[], guard := none }) rfl (fun K hK => ?_) AllReadyIn.nil)
            go_simp
            refine hK _ _ ?_
            clear hK K
            try simp only [Act.put, List.setIfInBounds_toArray, List.set_cons_zero, List.set_cons_succ]
            refine wpAnyIn_ready (rs := [6]) (by kernel_rfl) (by simp) ?_
            refine (AllReadyIn.cons (o := { dst := some 30, op := Op.call { callee := Callee.builtin Builtin.append, args := #[Operand.tmp 24, Operand.tmp 29], argTypes := #[27, 27] }, type := 27, pos := "merge.go:23", after := #[{ on := 0, ground := Ground.data }, { on := 5, ground := Ground.data }], guard := none }) rfl (fun K hK => ?_) AllReadyIn.nil)
            refine stepIn_append_all entOk rfl (.tmp 24) (.tmp 29) rfl rfl HO3.out [e0] rfl (src_at [e0] HLIT.out (by rw [show El.all entEl [e0] = [.string e0.k, .int .i64 e0.q, .bool e0.d, .string e0.v] from rfl, HDD.out]) rfl) (by simp only [List.length_singleton]; unfold maxLen; omega) (by simp only [List.length_singleton]; omega) (Nat.le_trans HSZ2.out HB3.out.size) ?_
            intro v4 w4 ho4 hk4 _
            obtain ⟨p4, c4, hv4⟩ := ownG_len ho4
            generalize (C ++ [e0]).length = m4 at hv4
            subst hv4
            refine hK _ _ ?_
            clear hK K
            try simp only [Act.put, List.setIfInBounds_toArray, List.set_cons_zero, List.set_cons_succ]
            have HO4 := Lib.hid ho4
            have HK4 := Lib.hid (show Keep v.ownBlock.toList w3 w4 from hk4)
            have hnb : ∀ x ∈ v.ownBlock.toList, w1.heap.size + 2 ≤ x := own_block_ge HO3.out
            have HS4 := Lib.hid (show Boxed w4 (w.heap.size + 1) 27 v from boxed_keep HS3.out hk4 (fun hm => by have := hnb _ hm; omega))
            have HA4 := Lib.hid (show Boxed w4 w.heap.size 3 (.int .i64 s) from boxed_keep HA3.out hk4 (fun hm => by have := hnb _ hm; omega))
            have c6 := HS4.out.cell
            have f6 := HS4.out.frozen
            clear ho4 hk4
            refine wpAnyIn_ready (rs := [7]) (by kernel_rfl) (by simp) ?_
            refine (AllReadyIn.cons (o := { dst := none, op := Op.store 27 (Operand.tmp 5) (Operand.tmp 30), type := 0, pos := "merge.go:23", after := #[{ on := 6, ground := Ground.data }, { on := 6, ground := Ground.chain }, { on := 0, ground := Ground.phase }, { on := 1, ground := Ground.phase }, { on := 2, ground := Ground.phase }, { on := 3, ground := Ground.phase }, { on := 4, ground := Ground.phase }, { on := 5, ground := Ground.phase }, { on := 6, ground := Ground.phase }], guard := none }) rfl (fun K hK => ?_) AllReadyIn.nil)
            go_simp
            refine hK _ _ ?_
            clear hK K
            try simp only [Act.put, List.setIfInBounds_toArray, List.set_cons_zero, List.set_cons_succ]
            refine wpAnyIn_done (by kernel_rfl) ?_ _
            gi_wp2
            have hkk : Keep ((w.heap.size + 1) :: v.ownBlock.toList) A2 (w4.setCell ⟨w.heap.size + 1, 0, none⟩ (.slice p4 m4 c4)) :=
              ((((Keep.of_bel HB3.out ((w.heap.size + 1) :: v.ownBlock.toList)).trans HK4.out (fun x hx => .inl (by simp [hx]))))).setCell (p := ⟨w.heap.size + 1, 0, none⟩) (.inl (by simp)) _
            refine ⟨⟨_, hkk, fun x hx => ?_⟩, ⟨_, HA4.out.other (by omega) _, HS4.out.set _, ?_, HBW2.out.trans (hkk.below HSB.out (fun x hx => ?_)), Nat.le_trans HSZ2.out hkk.size⟩⟩
            · rcases List.mem_cons.1 hx with rfl | hx
              · exact ⟨by omega, by simp, by omega, by omega⟩
              · have := hnb x hx
                exact ⟨by omega, by simp; omega, by omega, by omega⟩
            · rw [HNXT.out]
              exact HO4.out.setCell (p := ⟨w.heap.size + 1, 0, none⟩) (by show w.heap.size + 1 < w1.heap.size + 2; omega) _
            · rcases List.mem_cons.1 hx with rfl | hx
              · omega
              · have := hnb x hx; omega
    · have HNXT := Lib.hid (show (List.map (fun t => vis1 s t.g) (List.take (k + 1) gs)).flatten = C by rw [HNX.out, vis1_no (by rw [← hi]; exact hil), List.append_nil])
      rw [idxI_no hil]
      clear hi HNX
      gi_wp2
      exact HEND.out _ HNXT.out
  case done =>
    rintro W ⟨v, h1, h2, h3, h4, h5⟩ hD
    rw [List.length_map, List.take_length, HV.out] at h3
    obtain ⟨pp, cp, rfl⟩ := ownG_len h3
    have c5 := h2.cell
    have HO := Lib.hid h3; have HB := Lib.hid h4; have HDD := Lib.hid hD
    clear h1 h2 h3 h4 hD
    gi_wp2
    refine ⟨by simp, .inl ⟨_, _, rfl, run_takeDeferred HDD.out, ?_⟩⟩
    exact ⟨_, results_tmp rfl _ _ _, _, rfl, (HO.out.keep (keep_putObj W _ _) (fun x hx hm => by have := (HO.out.lt x hx).1; rw [List.mem_singleton] at hm; omega)).low (by have := HSB0.out; omega), HB.out.trans ((keep_putObj W _ _).below (Below.size HB.out) (fun x hx => by rw [List.mem_singleton] at hx; have := HSB0.out; omega))⟩
end Go.Proofs.Ytmdkpomgckkllaa
