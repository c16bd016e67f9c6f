/- block.Read, Find, Between: search with three closures. -/
import Derived.Test.YtldkpomkgmilbaaBSearch
set_option linter.unusedSimpArgs false
set_option linter.unusedVariables false
namespace Go.Proofs.Ytldkpomkgmilbaa
open Go.RowKit Go.Deep

set_option maxHeartbeats 1000000 in
theorem read1_any (kv : Value) (w : World) : Calls Try.prog 35 (#[kv] ++ #[]) w fun e w' => e = .returned (.bool true) ∧ Bel w w' := by
  show Calls _ _ #[kv] _ _
  go_enter Try.func35, Try.ntmps35
  go_wp2_with (fail)
  go_ret
  exact ⟨rfl, Bel.refl w⟩
set_option maxHeartbeats 1000000 in
theorem find1_any (n : Nat) (kv : Value) (key : List UInt8) (X : Nat) (t : ByteArray) (w : World) (h : Own n w kv key) (hX : w.cell? ⟨X, 0, none⟩ = some (.string t)) :
    Calls Try.prog 37 (#[kv] ++ #[.pointer (some ⟨X, 0, none⟩)]) w fun e w' => e = .returned (.bool (key == t.data.toList)) ∧ Bel w w' := by
  show Calls _ _ #[kv, .pointer (some ⟨X, 0, none⟩)] _ _
  have hcv := own_string h
  obtain ⟨kp, kcap, rfl, -⟩ := own_len h
  have HE := Lib.hid (show (key == t.toList) = (key == t.data.toList) by rw [ByteArray.toList_eq])
  clear h
  go_enter Try.func37, Try.ntmps37
  go_wp2_with (fail)
  go_ret
  exact ⟨ret_bool HE.out, Bel.refl w⟩
set_option maxHeartbeats 1000000 in
theorem between1_any (n : Nat) (kv : Value) (key : List UInt8) (X Y : Nat) (lo hi : ByteArray) (w : World) (h : Own n w kv key) (hX : w.cell? ⟨X, 0, none⟩ = some (.string lo)) (hY : w.cell? ⟨Y, 0, none⟩ = some (.string hi)) :
    Calls Try.prog 38 (#[kv] ++ #[.pointer (some ⟨X, 0, none⟩), .pointer (some ⟨Y, 0, none⟩)]) w fun e w' => e = .returned (.bool (betB lo.data.toList hi.data.toList key)) ∧ Bel w w' := by
  show Calls _ _ #[kv, .pointer (some ⟨X, 0, none⟩), .pointer (some ⟨Y, 0, none⟩)] _ _
  have hcv := own_string h
  obtain ⟨kp, kcap, rfl, -⟩ := own_len h
  rw [← ByteArray.toList_eq lo, ← ByteArray.toList_eq hi]
  clear h
  cases h1 : Op.bytesLess key lo.toList with
  | true =>
    have HE := Lib.hid (show betB lo.toList hi.toList key = false by unfold betB; rw [h1]; rfl)
    by_cases h3 : hi.toList = []
    · have h4 : hi.toList.isEmpty = true := by rw [h3]; rfl
      go_enter Try.func38, Try.ntmps38
      go_wp2_with (fail)
      go_ret
      exact ⟨ret_bool HE.out.symm, Bel.refl w⟩
    · have h4 : hi.toList.isEmpty = false := by cases h : hi.toList with | nil => exact absurd h h3 | cons _ _ => rfl
      go_enter Try.func38, Try.ntmps38
      go_wp2_with (fail)
      go_ret
      exact ⟨ret_bool HE.out.symm, Bel.refl w⟩
  | false =>
    by_cases h3 : hi.toList = []
    · have HE := Lib.hid (show betB lo.toList hi.toList key = true by unfold betB; rw [h1, h3]; rfl)
      have h4 : hi.toList.isEmpty = true := by rw [h3]; rfl
      go_enter Try.func38, Try.ntmps38
      go_wp2_with (fail)
      go_ret
      exact ⟨ret_bool HE.out.symm, Bel.refl w⟩
    · have h4 : hi.toList.isEmpty = false := by cases h : hi.toList with | nil => exact absurd h h3 | cons _ _ => rfl
      have h5 : (hi.toList == []) = false := by rw [beq_eq_false_iff_ne]; exact h3
      have HE := Lib.hid (show betB lo.toList hi.toList key = Op.bytesLess key hi.toList by unfold betB; rw [h1, h5]; simp)
      obtain ⟨z, hz⟩ : ∃ z, Op.bytesLess key hi.toList = z := ⟨_, rfl⟩
      rw [hz] at HE
      clear h5
      go_enter Try.func38, Try.ntmps38
      go_wp2_with (fail)
      go_ret
      exact ⟨ret_bool HE.out.symm, Bel.refl w⟩

theorem run_enter8 {f : FuncId} {fn : Func} {c : Code} (hf : Try.prog.funcs[f]? = some fn) (hname : (fn.name == "runtime.NumGoroutine") = false) (hb : fn.body = some c) (args : Array Value) (w : World) : (callFunc f args).run Try.prog w = .ok (.enter f args) w := by
  have h1 : fn.name ≠ "runtime.NumGoroutine" := by simpa using hname
  simp [callFunc, hf, h1, hb]
/-- What Read answers. -/
def readAll (s : List UInt8) : List PR × Int := searchL s (fun _ => true)
theorem filter_all (M : List PR) : M.filter (fun _ => true) = M := by simp
set_option maxHeartbeats 1000000 in
theorem read_any (s : ByteArray) (w : World) (hs : s.size ≤ 1000000) :
    Calls Try.prog 18 #[.string s] w (SearchPost s.data.toList (fun _ => true) w) := by
  go_enter Try.func18, Try.ntmps18
  go_wp2_with (fail)
  refine (search_any s (fun _ => true) 35 #[] w hs (fun kv x => run_enter8 Try.func35 (by kernel_rfl) rfl _ x) (fun kv key x _ _ _ => read1_any kv x)).mono ?_
  rintro e w1 ⟨v, L, rfl, ho, hp, hb⟩
  have HO := Lib.hid ho
  obtain ⟨p, cap, rfl⟩ := ownG_len ho
  clear ho
  go_wp2_with (fail)
  go_ret2
  exact ⟨_, L, rfl, HO.out, hp, hb⟩

theorem SearchPost.low {s : List UInt8} {f : List UInt8 → Bool} {w w1 : World} {e : Ending} {w' : World} (h : SearchPost s f w1 e w') (hb : Bel w w1) : SearchPost s f w e w' := by
  obtain ⟨v, L, he, ho, hp, hb'⟩ := h
  exact ⟨v, L, he, ho.low hb.size, hp, hb.trans hb'⟩
set_option maxHeartbeats 1000000 in
theorem between_any (s lo hi : ByteArray) (w : World) (hs : s.size ≤ 1000000) :
    Calls Try.prog 22 #[.string s, .string lo, .string hi] w (SearchPost s.data.toList (betB lo.data.toList hi.data.toList) w) := by
  have hbw := Lib.hid (((Bel.refl w).alloc (.cells #[.string lo] 9)).alloc (.cells #[.string hi] 9))
  have cX : ((w.alloc (.cells #[.string lo] 9)).alloc (.cells #[.string hi] 9)).cell? ⟨w.heap.size, 0, none⟩ = some (.string lo) := by simp
  have cY : ((w.alloc (.cells #[.string lo] 9)).alloc (.cells #[.string hi] 9)).cell? ⟨w.heap.size + 1, 0, none⟩ = some (.string hi) := by go_simp
  go_enter Try.func22, Try.ntmps22
  go_wp2_with (fail)
  refine (search_any s (betB lo.data.toList hi.data.toList) 38 #[.pointer (some ⟨w.heap.size, 0, none⟩), .pointer (some ⟨w.heap.size + 1, 0, none⟩)] _ hs (fun kv x => run_enter8 Try.func38 (by kernel_rfl) rfl _ x)
    (fun kv key x hx ho _ => between1_any _ kv key w.heap.size (w.heap.size + 1) lo hi x ho (cell_later hx cX) (cell_later hx cY))).mono ?_
  intro e w1 hpost
  obtain ⟨v, L, rfl, ho, hp, hb⟩ := hpost.low hbw.out
  have HO := Lib.hid ho
  obtain ⟨p, cap, rfl⟩ := ownG_len ho
  clear ho hpost
  go_wp2_with (fail)
  go_ret2
  exact ⟨_, L, rfl, HO.out, hp, hb⟩
/-- What Find answers. -/
def findA (s key : List UInt8) : List UInt8 × Bool × Int :=
  match readL s with
  | none => ([], false, 8)
  | some M => match M.filter (fun p => p.k == key) with
    | [] => ([], false, 0)
    | p :: _ => (p.v, true, 0)
theorem findA_nil {s key : List UInt8} (h : (searchL s (fun k => k == key)).1 = []) : findA s key = ([], false, (searchL s (fun k => k == key)).2) := by
  unfold findA searchL at *
  cases hr : readL s with
  | none => rfl
  | some M => rw [hr] at h; simp only at h ⊢; rw [h]
theorem findA_cons {s key : List UInt8} {p : PR} {M' : List PR} (h : (searchL s (fun k => k == key)).1 = p :: M') : findA s key = (p.v, true, 0) := by
  unfold findA searchL at *
  cases hr : readL s with
  | none => rw [hr] at h; cases h
  | some M => rw [hr] at h; simp only at h ⊢; rw [h]
def findV (s key : List UInt8) : Value := .tuple #[.string ⟨(findA s key).1.toArray⟩, .bool (findA s key).2.1, .int .i64 (findA s key).2.2]
set_option maxHeartbeats 1000000 in
theorem find_any (s key : ByteArray) (w : World) (hs : s.size ≤ 1000000) :
    Calls Try.prog 20 #[.string s, .string key] w fun e w' => e = .returned (findV s.data.toList key.data.toList) ∧ Bel w w' := by
  have hbw := Lib.hid ((Bel.refl w).alloc (.cells #[.string key] 9))
  have cX : (w.alloc (.cells #[.string key] 9)).cell? ⟨w.heap.size, 0, none⟩ = some (.string key) := by simp
  go_enter Try.func20, Try.ntmps20
  go_wp2_with (fail)
  refine (search_any s (fun k => k == key.data.toList) 37 #[.pointer (some ⟨w.heap.size, 0, none⟩)] _ hs (fun kv x => run_enter8 Try.func37 (by kernel_rfl) rfl _ x)
    (fun kv k x hx ho _ => find1_any _ kv k w.heap.size key x ho (cell_later hx cX))).mono ?_
  intro e w1 hpost
  obtain ⟨v, L, rfl, ho, hp, hb⟩ := hpost.low hbw.out
  obtain ⟨p, cap, rfl, hat⟩ := ownG_pairs ho
  have HB := Lib.hid hb
  clear ho hpost hb
  cases L with
  | nil =>
    have HF := Lib.hid (show findV s.data.toList key.data.toList = _ by unfold findV; rw [findA_nil hp.symm])
    simp only [List.length_nil]
    clear hp
    go_wp2_with (fail)
    go_ret3
    exact ⟨by rw [HF.out]; rfl, HB.out⟩
  | cons q L =>
    have HF := Lib.hid (show findV s.data.toList key.data.toList = .tuple #[.string q.v, .bool true, .int .i64 0] by unfold findV; rw [findA_cons (p := q.pr) (M' := prs L) hp.symm]; rfl)
    obtain ⟨a, B, O, sp, rfl, ha, c0, c1⟩ := hat 0 (by simp)
    have hl : ((q :: L).length : Int) = (L.length : Int) + 1 := by simp
    have ha' : a = ⟨B, O, sp⟩ := by rw [← ha]; rfl
    subst ha'
    have i0 : ((L.length : Int) + 1 == 0) = false := by rw [beq_eq_false_iff_ne]; omega
    simp only [List.getElem_cons_zero] at c0 c1
    clear hp ha hat
    go_wp2_with (fail)
    go_ret3
    exact ⟨by rw [HF.out]; rfl, HB.out⟩
end Go.Proofs.Ytldkpomkgmilbaa
