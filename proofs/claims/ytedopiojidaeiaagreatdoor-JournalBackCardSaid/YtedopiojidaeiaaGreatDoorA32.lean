/- JAll, JNum, laid together. -/
import Derived.Test.YtedopiojidaeiaaGreatDoorA31
import Derived.Test.YtedopiojidaeiaaGreatDoorA30
import Derived.Test.YtedopiojidaeiaaGreatDoorA24
/- journal's segmentsOf, readAll. -/
set_option linter.unusedSimpArgs false
set_option linter.unusedVariables false
namespace Go.Proofs.YtedopiojidaeiaaGreatDoor
open Go.RowKit Go.Deep Go.Maps

/-- A segment: its file's name, the function that reads it. -/
def segEl : El (List UInt8 × Nat) := ⟨133, 106, 2, fun x => [.string ⟨x.1.toArray⟩, .func (.func x.2) #[] #[]]⟩
theorem segOk : ElOk segEl 24 := ⟨fun _ => rfl, fun a u hu => by simp [segEl] at hu; rcases hu with rfl | rfl <;> rfl, by kernel_rfl, ⟨.agg #[.string ⟨#[]⟩, .nilFunc], by kernel_rfl, rfl⟩, by decide⟩
def rdFn (n k : Nat) : Nat := if k + 1 = n then 95 else 94
def segF (l : List (List UInt8)) : List (List UInt8 × Nat) := l.mapIdx fun k x => (x, rdFn l.length k)
theorem segF_len (l : List (List UInt8)) : (segF l).length = l.length := by unfold segF; rw [List.length_mapIdx]
theorem segF_get (l : List (List UInt8)) (k : Nat) (h : k < l.length) : (segF l)[k]? = some (l[k], rdFn l.length k) := by
  unfold segF; rw [List.getElem?_mapIdx, List.getElem?_eq_getElem h]; rfl
theorem segF_snoc (l : List (List UInt8)) (k : Nat) (h : k < l.length) : (segF l).take (k + 1) = (segF l).take k ++ [(l[k], rdFn l.length k)] := by
  rw [List.take_add_one, segF_get l k h]; rfl

set_option maxHeartbeats 4000000 in
theorem segof_any (w : World) (p : Option Addr) (cap : Nat) (L : List (List UInt8)) (h : StrsAt w p L) (hL : L.length ≤ 60) :
    Calls Tryz.prog 62 #[.slice p L.length cap] w fun e w' => ∃ v, e = .returned v ∧ OwnG segEl w.heap.size w' v (segF L) ∧ Bel w w' := by
  have H := Lib.hid h; clear h
  go_enter Tryz.func62, Tryz.ntmps62
  go_wp2_with (fail)
  go_loopw [3, 9] (fun lv iv x => ∃ k : Nat, iv = .int .i64 k ∧ k ≤ L.length ∧ OwnG segEl w.heap.size x lv ((segF L).take k) ∧ Bel w x) (fun _ iv _ => L.length - (intOf iv).toNat)
  case atStart => exact ⟨0, rfl, Nat.zero_le _, OwnG.nil _ _ _, Bel.refl _⟩
  case round =>
    obtain ⟨k, rfl, hk, hown, hb⟩ := hrel
    have hkl : ((segF L).take k).length = k := by rw [List.length_take, segF_len]; omega
    obtain ⟨lp, lc, hlv⟩ := ownG_len hown
    rw [hkl] at hlv
    subst hlv
    have HB := Lib.hid hb
    have HO := Lib.hid hown
    clear hown hb
    by_cases hlt : k < L.length
    · obtain ⟨a, rfl, hc⟩ := (H.out.bel HB.out) k hlt
      have HSN := Lib.hid (segF_snoc L k hlt)
      obtain ⟨nm, hnm⟩ : ∃ nm, nm = L[k] := ⟨_, rfl⟩
      rw [← hnm] at hc HSN
      clear hnm
      by_cases hl : k + 1 = L.length
      · have hl2 : ((k : Int) == (L.length : Int) - 1) = true := by rw [beq_iff_eq]; omega
        have hrd : rdFn L.length k = 95 := by unfold rdFn; rw [if_pos hl]
        rw [hrd] at HSN
        clear hl
        go_wp2_with (at_builtin; refine stop_here ?_)
        refine go_on ?_
        refine append_glit (L := (segF L).take k) segOk rfl _ _ rfl rfl HO.out _ _ _ [(nm, 95)] rfl rfl rfl (by unfold maxLen; simp only [List.length_singleton]; omega) (by simp only [List.length_singleton]; omega) HB.out.size (Or.inl rfl) ?_
        intro v3 w3 hown3 hb3 hZ3
        obtain ⟨p3, c3, hv3⟩ := ownG_len hown3
        rw [List.length_append, hkl, List.length_singleton] at hv3
        subst hv3
        have HV3 := Lib.hid hown3
        have HB3 := Lib.hid (HB.out.trans_below hb3)
        clear hown3 hb3
        go_wp2_with (fail)
        go_roundw
        case rel => exact ⟨k + 1, by go_num, by omega, by rw [HSN.out]; exact HV3.out, HB3.out⟩
        case measure => simp [intOf]; omega
      · have hl2 : ((k : Int) == (L.length : Int) - 1) = false := by rw [beq_eq_false_iff_ne]; omega
        have hrd : rdFn L.length k = 94 := by unfold rdFn; rw [if_neg hl]
        rw [hrd] at HSN
        clear hl
        go_wp2_with (at_builtin; refine stop_here ?_)
        refine go_on ?_
        refine append_glit (L := (segF L).take k) segOk rfl _ _ rfl rfl HO.out _ _ _ [(nm, 94)] rfl rfl rfl (by unfold maxLen; simp only [List.length_singleton]; omega) (by simp only [List.length_singleton]; omega) HB.out.size (Or.inl rfl) ?_
        intro v3 w3 hown3 hb3 hZ3
        obtain ⟨p3, c3, hv3⟩ := ownG_len hown3
        rw [List.length_append, hkl, List.length_singleton] at hv3
        subst hv3
        have HV3 := Lib.hid hown3
        have HB3 := Lib.hid (HB.out.trans_below hb3)
        clear hown3 hb3
        go_wp2_with (fail)
        go_roundw
        case rel => exact ⟨k + 1, by go_num, by omega, by rw [HSN.out]; exact HV3.out, HB3.out⟩
        case measure => simp [intOf]; omega
    · obtain rfl : k = L.length := by omega
      go_wp2_with (fail)
      go_ret
      have := HO.out
      rw [List.take_of_length_le (by rw [segF_len]; exact Nat.le_refl _)] at this
      exact ⟨_, rfl, this, HB.out⟩

theorem readSegs_lens (p : List UInt8) : ∀ (l : List Nat) (M : RS), (∀ y ∈ M.L, y.bytes.length ≤ 1000000) → (readSegs p l M).2.1.length ≤ 1000000 * l.length
  | [], M, h => by simp [readSegs]
  | n :: r, M, h => by
    have ih := readSegs_lens p r M h
    have h1 : (readL (bytesOf (fileN p n) M)).1.length ≤ 1000000 := by
      refine Nat.le_trans (read_size _ _ (Nat.le_refl _)).2.1 ?_
      unfold bytesOf
      cases hy : getF (fileN p n) M.L with
      | none => simp
      | some y => exact h y (getF_mem hy)
    simp only [readSegs]
    split
    · split
      · simp only [List.length_append, List.length_cons]; omega
      · simp
    · split
      · simp
      · split
        · simp only [List.length_cons]; omega
        · simp
def RaPost (n₀ : Nat) (w : World) (b : Nat) (F : List Nat) (M' : RS) (L : List (List (List UInt8))) (err : Int) (e : Ending) (y : World) : Prop := RdPost n₀ w b F M' L err e y
def joinS (acc : List (List (List UInt8))) (r : Int × List (List (List UInt8)) × RS) : Int × List (List (List UInt8)) × RS := if r.1 = 0 then (0, acc ++ r.2.1, r.2.2) else (r.1, [], r.2.2)
theorem join_join (a b : List (List (List UInt8))) (r : Int × List (List (List UInt8)) × RS) : joinS a (joinS b r) = joinS (a ++ b) r := by
  unfold joinS
  by_cases h : r.1 = 0
  · rw [if_pos h, if_pos h]; simp
  · rw [if_neg h, if_neg h]; simp only; rw [if_neg h]
theorem join_zero (a b : List (List (List UInt8))) (M : RS) : joinS a (0, b, M) = (0, a ++ b, M) := rfl
theorem join_err (a b : List (List (List UInt8))) (M : RS) {e : Int} (he : e ≠ 0) : joinS a (e, b, M) = (e, [], M) := by unfold joinS; rw [if_neg he]
/-- Behind some segments: what is left to read. -/
def LeftS (p : List UInt8) (l : List Nat) (M : RS) (k : Nat) (acc : List (List (List UInt8))) (Mk : RS) : Prop :=
  (k < l.length → Mk = M) ∧ readSegs p l M = joinS acc (readSegs p (l.drop k) Mk)
theorem read_err (p : List UInt8) (l : List Nat) (M : RS) (h : (readSegs p l M).1 ≠ 0) : (readSegs p l M).2.1 = [] := by
  cases l with
  | nil => exact absurd rfl h
  | cons n r =>
    revert h
    simp only [readSegs]
    split
    · split
      · intro h; exact absurd rfl h
      · intro _; rfl
    · split
      · intro _; rfl
      · split
        · intro h; exact absurd rfl h
        · intro _; rfl
theorem left_start (p : List UInt8) (l : List Nat) (M : RS) : LeftS p l M 0 [] M := by
  refine ⟨fun _ => rfl, ?_⟩
  rw [List.drop_zero]
  unfold joinS
  split
  · rename_i h; rw [List.nil_append, ← h]
  · rename_i h; rw [← read_err p l M h]
theorem run_store_fn (w : World) (a : Addr) (m : Mode) (f : Fn) (x y : Array Value) : (store a (.func f x y) m).run Tryz.prog w = stored Tryz.prog w a (.func f x y) m := run_store Tryz.prog w a _ m rfl
theorem ownq_append {w x : World} {F : List Nat} {v yv : Value} {L M : List (List (List UInt8))} {ops : Array Oper} {rest : List Oper} {o : Oper} {a : Act} {Q : Exit → Act → World → Prop} (hgd : o.guard = none) (s y : Operand)
    (ho : o.op = .call { callee := .builtin .append, args := #[s, y], argTypes := #[41, 41] }) (hs : a.eval s = v) (hy : a.eval y = yv) (hown : OwnQ w x F v L) (hown2 : OwnQ w x F yv M)
    (hl1 : L.length + M.length ≤ 1000000000) (hF : ∀ k ∈ F, k < x.heap.size) (hw : w.heap.size ≤ x.heap.size)
    (h : ∀ v' z, OwnQ w z F v' (L ++ M) → Keep v.ownBlock.toList x z → wpList Tryz.prog ops Q rest (a.put o.dst v') z) : wpList Tryz.prog ops Q (o :: rest) a x := by
  obtain ⟨H, h1, h2, h3⟩ := hown.own.ex
  obtain ⟨K, k1, k2, k3⟩ := hown2.own.ex
  refine append_src slOk hgd s y ho hs h1 K hy (own_src slOk k1) (by unfold maxLen; omega) (by omega) hw ?_
  intro v' z hz hb hkeep hwh
  have hz' : Below x.heap.size x z ∨ True := Or.inr trivial
  have hks : Keep v.ownBlock.toList x z := ⟨hb.os, hb.tape, hb.output, hb.size, fun k hk hn => hkeep k hk (fun e => hn (by rw [← e]; simp))⟩
  have hm : ∀ k, Qb w x F k → Qb w z F k := fun k hk => ⟨hk.1, Nat.lt_of_lt_of_le hk.2.1 hb.size, hk.2.2⟩
  refine h v' z ⟨OwnL.mono ⟨H ++ K, hz, by simp [h2, k2], els_app h2 (els_keep h1 (Nat.zero_le _) h3 hkeep) (els_keep h1 (Nat.zero_le _) k3 hkeep)⟩ hm (Nat.le_refl _), fun k hk => ?_⟩ hks
  have hlt := hz.lt k hk
  rcases hwh with e | e
  · exact hm k (hown.blk k (by rw [← e, hk]))
  · rw [hk, Option.some.injEq] at e
    subst e
    exact ⟨hw, hlt.2, fun hm => by have := hF _ hm; omega⟩
theorem left_next {p : List UInt8} {l : List Nat} {M : RS} {k : Nat} {acc : List (List (List UInt8))} (h : LeftS p l M k acc M) (hk : k < l.length) {L2 : List (List (List UInt8))} (hw : wholeS (bytesOf (fileN p l[k]) M) = (L2, 0)) : LeftS p l M (k + 1) (acc ++ L2) M := by
  refine ⟨fun _ => rfl, ?_⟩
  have hread : readSegs p (l.drop k) M = joinS L2 (readSegs p (l.drop (k + 1)) M) := by
    rw [List.drop_eq_getElem_cons hk]
    unfold wholeS at hw
    split at hw
    · rename_i h0
      simp only [Prod.mk.injEq, and_true] at hw
      simp only [readSegs]
      rw [if_pos h0, hw]
      rfl
    · rename_i h0
      simp only [Prod.mk.injEq] at hw
      exact absurd hw.2 h0
  rw [h.2, hread, join_join]
theorem left_fail {p : List UInt8} {l : List Nat} {M : RS} {k : Nat} {acc : List (List (List UInt8))} (h : LeftS p l M k acc M) (hk : k < l.length) (hne : k + 1 ≠ l.length) {L2 : List (List (List UInt8))} {e : Int} (he : e ≠ 0) (hw : wholeS (bytesOf (fileN p l[k]) M) = (L2, e)) : readSegs p l M = (e, [], M) := by
  have hread : readSegs p (l.drop k) M = (e, [], M) := by
    rw [List.drop_eq_getElem_cons hk]
    unfold wholeS at hw
    split at hw
    · simp only [Prod.mk.injEq] at hw; exact absurd hw.2.symm he
    · rename_i h0
      simp only [Prod.mk.injEq] at hw
      have hr : l.drop (k + 1) ≠ [] := by intro e; have := congrArg List.length e; rw [List.length_drop, List.length_nil] at this; omega
      simp only [readSegs]
      rw [if_neg h0, if_pos hr, hw.2]
  rw [h.2, hread, join_err _ _ _ he]
theorem left_last {p : List UInt8} {l : List Nat} {M : RS} {k : Nat} {acc : List (List (List UInt8))} (h : LeftS p l M k acc M) (hk : k < l.length) (hl : k + 1 = l.length) {L2 : List (List (List UInt8))} {e : Int} {M2 : RS} (hw : mendedS (fileN p l[k]) (bytesOf (fileN p l[k]) M) M = (L2, e, M2)) :
    (e = 0 → LeftS p l M (k + 1) (acc ++ L2) M2) ∧ (e ≠ 0 → readSegs p l M = (e, [], M2)) := by
  have hr : l.drop (k + 1) = [] := List.drop_eq_nil_of_le (by omega)
  have hread : readSegs p (l.drop k) M = (e, L2, M2) := by
    rw [List.drop_eq_getElem_cons hk, hr]
    unfold mendedS at hw
    simp only [readSegs]
    split at hw
    · rename_i h0
      simp only [Prod.mk.injEq] at hw
      obtain ⟨rfl, rfl, rfl⟩ := hw
      rw [if_pos h0]; simp
    · rename_i h0
      rw [if_neg h0]
      simp only [ne_eq, not_true_eq_false, if_false]
      split at hw
      · rename_i h1
        simp only [Prod.mk.injEq] at hw
        obtain ⟨rfl, rfl, rfl⟩ := hw
        rw [if_pos h1]
      · rename_i h1
        simp only [Prod.mk.injEq] at hw
        obtain ⟨rfl, rfl, rfl⟩ := hw
        rw [if_neg h1]
  refine ⟨fun he => ⟨fun hlt => absurd hlt (by omega), ?_⟩, fun he => ?_⟩
  · subst he
    rw [h.2, hread, hr, join_zero]
    simp [readSegs, joinS]
  · rw [h.2, hread, join_err _ _ _ he]
theorem left_end {p : List UInt8} {l : List Nat} {M Mk : RS} {acc : List (List (List UInt8))} (h : LeftS p l M l.length acc Mk) : readSegs p l M = (0, acc, Mk) := by
  rw [h.2, List.drop_length]; simp [readSegs, joinS]
theorem bytesOf_get {nm : List UInt8} {M : RS} {y : FI} (h : getF nm M.L = some y) : bytesOf nm M = y.bytes := by unfold bytesOf; rw [h]
theorem whole_len (s : List UInt8) (h : s.length ≤ 1000000) : (wholeS s).1.length ≤ 1000000 := by
  unfold wholeS
  split
  · exact Nat.le_trans (read_size _ _ (Nat.le_refl _)).2.1 h
  · simp
theorem mended_len (nm s : List UInt8) (M : RS) (h : s.length ≤ 1000000) : (mendedS nm s M).1.length ≤ 1000000 := by
  unfold mendedS
  split
  · exact Nat.le_trans (read_size _ _ (Nat.le_refl _)).2.1 h
  · split
    · exact Nat.le_trans (read_size _ _ (Nat.le_refl _)).2.1 h
    · simp
theorem mended_ok {M : RS} (h : M.ok) (nm s : List UInt8) : (mendedS nm s M).2.2.ok := by
  unfold mendedS
  split
  · exact h
  · split
    · exact mend_ok h _ _
    · exact mend_ok h _ _
def RaRel (n₀ : Nat) (w : World) (b : Nat) (F : List Nat) (p : List UInt8) (l : List Nat) (M : RS) (sv : Value) (ov iv : Value) (x : World) : Prop :=
  ∃ (k : Nat) (acc : List (List (List UInt8))) (Mk : RS) (Fk : List Nat), iv = .int .i64 k ∧ k ≤ l.length ∧ ProgAt n₀ x b Mk Fk ∧ Keep F w x ∧ (∀ j ∈ Fk, j ∈ F ∨ w.heap.size ≤ j) ∧ OwnQ w x Fk ov acc ∧ LeftS p l M k acc Mk ∧ acc.length ≤ 1000000 * k ∧ OwnG segEl 0 x sv (segF (l.map (fileN p)))

set_option maxHeartbeats 4000000 in
theorem readall_any (n₀ : Nat) (w : World) (b : Nat) (M : RS) (F : List Nat) (p : List UInt8) (l : List Nat) (sv : Value) (h : ProgAt n₀ w b M F) (hM : M.ok) (hg : M.gone = false) (hp : p.length ≤ 100) (hl : ∀ n ∈ l, n ≤ 9999999 ∧ ∃ y, getF (fileN p n) M.L = some y) (hl60 : l.length ≤ 60) (hsz : ∀ y ∈ M.L, y.bytes.length ≤ 1000000)
    (hs : OwnG segEl 0 w sv (segF (l.map (fileN p)))) (hsF : ∀ k, sv.ownBlock = some k → k < w.heap.size ∧ k ∉ F) :
    Calls Tryz.prog 61 #[.pointer (some ⟨b, 0, none⟩), sv] w (RdPost n₀ w b F (readSegs p l M).2.2 (readSegs p l M).2.1 (readSegs p l M).1) := by
  have HP := Lib.hid h
  have HM := Lib.hid hM
  have HL := Lib.hid hl
  have HS := Lib.hid hs
  have HSZ := Lib.hid hsz
  have hsl : (segF (l.map (fileN p))).length = l.length := by rw [segF_len, List.length_map]
  obtain ⟨sp, sc, hsv⟩ := ownG_len hs
  rw [hsl] at hsv
  have HSF := Lib.hid hsF
  subst hsv
  clear h hM hl hs hsz hsF
  go_enter Tryz.func61, Tryz.ntmps61
  go_wp2_with (fail)
  go_loopw [6, 13] (fun ov iv x => RaRel n₀ w b F p l M (.slice sp l.length sc) ov iv x) (fun _ iv _ => l.length - (intOf iv).toNat)
  case atStart => exact ⟨0, [], M, F, rfl, Nat.zero_le _, HP.out, Keep.refl _ _, fun j hj => Or.inl hj, OwnQ.nil _ _ _, left_start _ _ _, by simp, HS.out⟩
  case round =>
    obtain ⟨k, acc, Mk, Fk, rfl, hk, hpk, hkeep, hfk, hoq, hleft, hal, hseg⟩ := hrel
    have HPK := Lib.hid hpk
    have HK := Lib.hid hkeep
    have HFK := Lib.hid hfk
    have HO := Lib.hid hoq
    have HLF := Lib.hid hleft
    have HSG := Lib.hid hseg
    have HFL := Lib.hid (prog_lt hpk)
    obtain ⟨op, oc, hov⟩ := hoq.own.len
    subst hov
    clear hpk hkeep hfk hoq hleft hseg
    by_cases hlt : k < l.length
    · obtain rfl : Mk = M := HLF.out.1 hlt
      have hne : segF (l.map (fileN p)) ≠ [] := by intro e; rw [e] at hsl; simp at hsl; omega
      obtain ⟨g, sc', hv, _, hgl, _, hcs⟩ := ownG_cells segOk HSG.out hne
      rw [hsl] at hv
      simp only [Value.slice.injEq, true_and] at hv
      obtain ⟨rfl, rfl⟩ := hv
      have hget : (segF (l.map (fileN p)))[k]? = some (fileN p l[k], rdFn l.length k) := by
        have := segF_get (l.map (fileN p)) k (by rw [List.length_map]; exact hlt)
        simpa using this
      obtain ⟨hn9, y, hy⟩ := HL.out l[k] (List.getElem_mem hlt)
      have hfl := file_len p (n := l[k]) (by omega)
      have hyb := HSZ.out y (getF_mem hy)
      have HBY := Lib.hid (bytesOf_get hy)
      have hnz := str_len (fileN p l[k])
      have e0 := hcs k _ hget 0 _ rfl
      have e1 := hcs k _ hget 1 _ rfl
      simp only [segEl, Nat.add_zero] at e0 e1
      have HWH := Lib.hid (fun (z : World) (F' : List Nat) (h : ProgAt n₀ z b Mk F') => whole_any n₀ z b Mk F' (⟨(fileN p l[k]).toArray⟩ : ByteArray) y h HM.out hg (by omega) (by rw [str_list]; exact hy) hyb)
      have HMD := Lib.hid (fun (z : World) (F' : List Nat) (h : ProgAt n₀ z b Mk F') => mended_any n₀ z b Mk F' (⟨(fileN p l[k]).toArray⟩ : ByteArray) y h HM.out hg (by omega) (by rw [str_list]; exact hy) hyb)
      rw [str_list] at HMD
      have hgF : g < w.heap.size ∧ g ∉ F := HSF.out g rfl
      have hgk : g ∉ Fk := fun hm => by
        rcases HFK.out g hm with h | h
        · exact hgF.2 h
        · omega
      by_cases hlast : k + 1 = l.length
      · have hrd : rdFn l.length k = 95 := by unfold rdFn; rw [if_pos hlast]
        rw [hrd] at e1
        obtain ⟨L2, er, M2, hw⟩ : ∃ L2 er M2, mendedS (fileN p l[k]) y.bytes Mk = (L2, er, M2) := ⟨_, _, _, rfl⟩
        have hwl := mended_len (fileN p l[k]) y.bytes Mk hyb
        rw [hw] at hwl
        have HW := Lib.hid (show mendedS (fileN p l[k]) (bytesOf (fileN p l[k]) Mk) Mk = (L2, er, M2) by rw [HBY.out]; exact hw)
        have HLL := Lib.hid (left_last HLF.out hlt hlast HW.out)
        simp only [hw] at HMD
        generalize fileN p l[k] = nm at e0 HMD hnz hfl
        clear hget hy hcs hne HWH hw hrd
        have hsf := run_store_fn
        go_wp2_with (fail)
        have HB1 := Lib.hid ((Bel.refl wr).alloc (.cells #[.string ⟨nm.toArray⟩, .func (.func 95) #[] #[]] 133))
        refine (HMD.out _ Fk (HPK.out.bel HB1.out)).mono ?_
        rintro e' w2 ⟨v2, F2, rfl, hp2, hk2, hf2, hq2⟩
        have HP2 := Lib.hid hp2
        have HK2 := Lib.hid ((Keep.of_bel HB1.out Fk).trans hk2 (fun x hx => Or.inl hx))
        have HF2 := Lib.hid (show ∀ j ∈ F2, j ∈ Fk ∨ wr.heap.size ≤ j from fun j hj => (hf2 j hj).imp id (fun h => Nat.le_trans HB1.out.size h))
        have HQ2 := Lib.hid (hq2.lower (w' := w) (Nat.le_trans HK.out.size HB1.out.size))
        have HA2 := Lib.hid (HO.out.step HK2.out HF2.out)
        have HFL2 := Lib.hid (prog_lt hp2)
        have HKW := Lib.hid (show Keep F w w2 from HK.out.trans HK2.out (fun x hx => HFK.out x hx))
        have HFW := Lib.hid (show ∀ j ∈ F2, j ∈ F ∨ w.heap.size ≤ j from fun j hj => by
          rcases HF2.out j hj with h | h
          · exact HFK.out j h
          · exact Or.inr (Nat.le_trans HK.out.size h))
        have HS2 := Lib.hid (HSG.out.keep HK2.out (fun j hj => by simp only [Value.ownBlock, Option.some.injEq] at hj; subst hj; exact hgk))
        clear hp2 hk2 hf2 hq2
        by_cases he : er = 0
        · subst he
          have HLN := Lib.hid (HLL.out.1 rfl)
          go_wp2_with (at_builtin; refine stop_here ?_)
          refine go_on ?_
          refine ownq_append rfl _ _ rfl rfl rfl HA2.out HQ2.out (by omega) HFL2.out HKW.out.size ?_
          intro v3 z3 hq3 hk3
          obtain ⟨p3, c3, hv3⟩ := hq3.own.len
          rw [List.length_append] at hv3
          subst hv3
          have HQ3 := Lib.hid hq3
          have HP3 := Lib.hid (HP2.out.keep hk3 (fun j hj hm => by
            rw [Option.mem_toList] at hm
            exact (HA2.out.blk j hm).2.2 hj))
          have HK3 := Lib.hid (HKW.out.trans hk3 (fun j hj => by
            rw [Option.mem_toList] at hj
            exact Or.inr (HA2.out.blk j hj).1))
          have HS3 := Lib.hid (HS2.out.keep hk3 (fun j hj hm => by
            simp only [Value.ownBlock, Option.some.injEq] at hj; subst hj
            rw [Option.mem_toList] at hm
            have := (HA2.out.blk _ hm).1
            omega))
          clear hq3 hk3
          go_wp2_with (fail)
          go_roundw
          case rel => exact ⟨k + 1, acc ++ L2, M2, F2, by go_num, by omega, HP3.out, HK3.out, HFW.out, HQ3.out, HLN.out, by rw [List.length_append]; omega, HS3.out⟩
          case measure => simp [intOf]; omega
        · have HE := Lib.hid (HLL.out.2 he)
          have hx3 : (er != 0) = true := by rw [bne_iff_ne]; exact he
          have hx2 : (er == 0) = false := by rw [beq_eq_false_iff_ne]; exact he
          go_wp2_with (fail)
          go_ret2
          rw [HE.out]
          exact ⟨_, F2, rfl, HP2.out, HKW.out, HFW.out, OwnQ.nil _ _ _⟩
      · have hrd : rdFn l.length k = 94 := by unfold rdFn; rw [if_neg hlast]
        rw [hrd] at e1
        obtain ⟨L2, er, hw⟩ : ∃ L2 er, wholeS y.bytes = (L2, er) := ⟨_, _, rfl⟩
        have hwl := whole_len y.bytes hyb
        rw [hw] at hwl
        have HW := Lib.hid (show wholeS (bytesOf (fileN p l[k]) Mk) = (L2, er) by rw [HBY.out]; exact hw)
        simp only [hw] at HWH
        have HLN0 := Lib.hid (fun (h : er = 0) => left_next HLF.out hlt (by rw [HW.out, h]))
        have HLF0 := Lib.hid (fun (h : er ≠ 0) => left_fail HLF.out hlt hlast h HW.out)
        generalize fileN p l[k] = nm at e0 HWH hnz hfl
        clear hget hy hcs hne HMD hw hrd
        have hsf := run_store_fn
        go_wp2_with (fail)
        have HB1 := Lib.hid ((Bel.refl wr).alloc (.cells #[.string ⟨nm.toArray⟩, .func (.func 94) #[] #[]] 133))
        refine (HWH.out _ Fk (HPK.out.bel HB1.out)).mono ?_
        rintro e' w2 ⟨v2, F2, rfl, hp2, hk2, hf2, hq2⟩
        have HP2 := Lib.hid hp2
        have HK2 := Lib.hid ((Keep.of_bel HB1.out Fk).trans hk2 (fun x hx => Or.inl hx))
        have HF2 := Lib.hid (show ∀ j ∈ F2, j ∈ Fk ∨ wr.heap.size ≤ j from fun j hj => (hf2 j hj).imp id (fun h => Nat.le_trans HB1.out.size h))
        have HQ2 := Lib.hid (hq2.lower (w' := w) (Nat.le_trans HK.out.size HB1.out.size))
        have HA2 := Lib.hid (HO.out.step HK2.out HF2.out)
        have HFL2 := Lib.hid (prog_lt hp2)
        have HKW := Lib.hid (show Keep F w w2 from HK.out.trans HK2.out (fun x hx => HFK.out x hx))
        have HFW := Lib.hid (show ∀ j ∈ F2, j ∈ F ∨ w.heap.size ≤ j from fun j hj => by
          rcases HF2.out j hj with h | h
          · exact HFK.out j h
          · exact Or.inr (Nat.le_trans HK.out.size h))
        have HS2 := Lib.hid (HSG.out.keep HK2.out (fun j hj => by simp only [Value.ownBlock, Option.some.injEq] at hj; subst hj; exact hgk))
        clear hp2 hk2 hf2 hq2
        by_cases he : er = 0
        · subst he
          have HLN := Lib.hid (HLN0.out rfl)
          go_wp2_with (at_builtin; refine stop_here ?_)
          refine go_on ?_
          refine ownq_append rfl _ _ rfl rfl rfl HA2.out HQ2.out (by omega) HFL2.out HKW.out.size ?_
          intro v3 z3 hq3 hk3
          obtain ⟨p3, c3, hv3⟩ := hq3.own.len
          rw [List.length_append] at hv3
          subst hv3
          have HQ3 := Lib.hid hq3
          have HP3 := Lib.hid (HP2.out.keep hk3 (fun j hj hm => by
            rw [Option.mem_toList] at hm
            exact (HA2.out.blk j hm).2.2 hj))
          have HK3 := Lib.hid (HKW.out.trans hk3 (fun j hj => by
            rw [Option.mem_toList] at hj
            exact Or.inr (HA2.out.blk j hj).1))
          have HS3 := Lib.hid (HS2.out.keep hk3 (fun j hj hm => by
            simp only [Value.ownBlock, Option.some.injEq] at hj; subst hj
            rw [Option.mem_toList] at hm
            have := (HA2.out.blk _ hm).1
            omega))
          clear hq3 hk3
          go_wp2_with (fail)
          go_roundw
          case rel => exact ⟨k + 1, acc ++ L2, Mk, F2, by go_num, by omega, HP3.out, HK3.out, HFW.out, HQ3.out, HLN.out, by rw [List.length_append]; omega, HS3.out⟩
          case measure => simp [intOf]; omega
        · have HE := Lib.hid (HLF0.out he)
          have hx3 : (er != 0) = true := by rw [bne_iff_ne]; exact he
          have hx2 : (er == 0) = false := by rw [beq_eq_false_iff_ne]; exact he
          go_wp2_with (fail)
          go_ret2
          rw [HE.out]
          exact ⟨_, F2, rfl, HP2.out, HKW.out, HFW.out, OwnQ.nil _ _ _⟩
    · obtain rfl : k = l.length := by omega
      have HE := Lib.hid (left_end HLF.out)
      go_wp2_with (fail)
      go_ret2
      rw [HE.out]
      exact ⟨_, Fk, rfl, HPK.out, HK.out, HFK.out, HO.out⟩
end Go.Proofs.YtedopiojidaeiaaGreatDoor
/- The number of the segment that a file is: journal's and moultref7's. -/
set_option linter.unusedSimpArgs false
set_option linter.unusedVariables false
namespace Go.Proofs.YtedopiojidaeiaaGreatDoor
open Go.RowKit Go.Deep

def AtoiPost (l : List UInt8) (w : World) (e : Ending) (w' : World) : Prop :=
  (∃ v, e = .returned (.tuple #[.int .i64 v, .nilIface]) ∧ Lib.atoiAll l = .ok v ∧ Bel w w') ∨ (∃ v T p, e = .returned (.tuple #[.int .i64 v, .iface T p]) ∧ (∀ v', Lib.atoiAll l ≠ .ok v') ∧ Bel w w')
theorem atoi_any (s : ByteArray) (w : World) (hs : s.size ≤ 1000000) (hstd : Std w) :
    Calls Tryz.prog 106 #[.string s] w (AtoiPost s.data.toList w) := by
  obtain ⟨_, ⟨t2, p2, h2⟩, ⟨t3, p3, h3⟩, _⟩ := hstd
  rcases h : Lib.atoiAll s.data.toList with v | _ | _
  · refine (Any.strconv_Atoi_ok Tryz.laysC172 s (by omega) v h w).mono ?_
    rintro e w' ⟨rfl, hw⟩
    refine Or.inl ⟨v, rfl, h, ?_⟩
    rcases hw with rfl | ⟨t, rfl⟩
    · exact Bel.refl _
    · exact Lib.bytesWorld_below _ _ _
  · refine (Any.strconv_Atoi_syntax Tryz.laysC172 s (by omega) h _ w h2 (Or.inr ⟨t2, p2, rfl⟩)).mono ?_
    rintro e w' ⟨N, rfl, -, -, hb⟩
    exact Or.inr ⟨_, _, _, rfl, fun v' hv => (by rw [h] at hv; cases hv), hb⟩
  · refine (Any.strconv_Atoi_range Tryz.laysC172 s (by omega) h _ w h3 (Or.inr ⟨t3, p3, rfl⟩)).mono ?_
    rintro e w' ⟨N, rfl, -, -, hb⟩
    exact Or.inr ⟨_, _, _, rfl, fun v' hv => (by rw [h] at hv; cases hv), hb⟩
theorem prefix_short (s t : ByteArray) (w : World) (hs : s.size ≤ 1000000) (ht2 : t.size ≤ 1000000) (ht : s.size < t.size) :
    Calls Tryz.prog 142 #[.string s, .string t] w fun e w' => e = .returned (.bool false) ∧ Bel w w' := by
  go_enter Tryz.func142, Tryz.ntmps142
  go_wp2_with (fail)
  go_ret
  exact ⟨rfl, Bel.refl w⟩
theorem has_any (s t : ByteArray) (b : Bool) (w : World) (hs : s.size ≤ 1000000) (ht2 : t.size ≤ 1000000) (h : (s.data.toList.take t.size == t.data.toList) = b) :
    Calls Tryz.prog 142 #[.string s, .string t] w fun e w' => e = .returned (.bool b) ∧ Bel w w' := by
  by_cases ht : t.size ≤ s.size
  · have e : ((s.extract 0 t.size).toList == t.toList) = b := by
      rw [← h, ByteArray.toList_eq, ByteArray.toList_eq, ext_data, List.drop_zero]
    rw [← e]
    exact prefix0_any s t w hs ht
  · have e : b = false := by
      rw [← h, beq_eq_false_iff_ne]
      intro e
      have h1 := congrArg List.length e
      rw [List.length_take, show s.data.toList.length = s.size from rfl, show t.data.toList.length = t.size from rfl] at h1
      omega
    subst e
    exact prefix_short s t w hs ht2 (by omega)
theorem cut0_yes (s t : ByteArray) (w : World) (hs : s.size ≤ 1000000) (ht2 : t.size ≤ s.size) (h : (s.data.toList.take t.size == t.data.toList) = true) :
    Calls Tryz.prog 122 #[.string s, .string t] w fun e w' => e = .returned (.tuple #[.string (s.extract t.size s.size), .bool true]) ∧ Bel w w' := by
  have H := Lib.hid h; clear h
  go_enter Tryz.func122, Tryz.ntmps122
  go_wp2_with (fail)
  refine (has_any s t true w hs (by omega) H.out).mono ?_
  rintro e w1 ⟨rfl, hb⟩
  have HB := Lib.hid hb; clear hb
  go_wp2_with (fail)
  go_ret2
  exact ⟨rfl, HB.out⟩
theorem cut0_no (s t : ByteArray) (w : World) (hs : s.size ≤ 1000000) (ht2 : t.size ≤ 1000000) (h : (s.data.toList.take t.size == t.data.toList) = false) :
    Calls Tryz.prog 122 #[.string s, .string t] w fun e w' => e = .returned (.tuple #[.string s, .bool false]) ∧ Bel w w' := by
  have H := Lib.hid h; clear h
  go_enter Tryz.func122, Tryz.ntmps122
  go_wp2_with (fail)
  refine (has_any s t false w hs (by omega) H.out).mono ?_
  rintro e w1 ⟨rfl, hb⟩
  have HB := Lib.hid hb; clear hb
  go_wp2_with (fail)
  go_ret2
  exact ⟨rfl, HB.out⟩
theorem cut_yes (s t : ByteArray) (w : World) (hs : s.size ≤ 1000000) (ht2 : t.size ≤ s.size) (h : (s.data.toList.take t.size == t.data.toList) = true) :
    Calls Tryz.prog 105 #[.string s, .string t] w fun e w' => e = .returned (.tuple #[.string (s.extract t.size s.size), .bool true]) ∧ Bel w w' := by
  have H := Lib.hid h; clear h
  go_enter Tryz.func105, Tryz.ntmps105
  go_wp2_with (fail)
  refine (cut0_yes s t w hs ht2 H.out).mono ?_
  rintro e w1 ⟨rfl, hb⟩
  have HB := Lib.hid hb; clear hb
  go_wp2_with (fail)
  go_ret2
  exact ⟨rfl, HB.out⟩
theorem cut_no (s t : ByteArray) (w : World) (hs : s.size ≤ 1000000) (ht2 : t.size ≤ 1000000) (h : (s.data.toList.take t.size == t.data.toList) = false) :
    Calls Tryz.prog 105 #[.string s, .string t] w fun e w' => e = .returned (.tuple #[.string s, .bool false]) ∧ Bel w w' := by
  have H := Lib.hid h; clear h
  go_enter Tryz.func105, Tryz.ntmps105
  go_wp2_with (fail)
  refine (cut0_no s t w hs ht2 H.out).mono ?_
  rintro e w1 ⟨rfl, hb⟩
  have HB := Lib.hid hb; clear hb
  go_wp2_with (fail)
  go_ret2
  exact ⟨rfl, HB.out⟩
def numV (p nm : List UInt8) : Value := .tuple #[.int .i64 (segN p nm : Nat), .bool (decide (segN p nm ≠ 0))]
theorem numV_none {p nm : List UInt8} (h : segN p nm = 0) : numV p nm = .tuple #[.int .i64 0, .bool false] := by unfold numV; rw [h]; rfl
theorem numV_some {p nm : List UInt8} {n : Nat} (h : segN p nm = n) (hn : n ≠ 0) : numV p nm = .tuple #[.int .i64 n, .bool true] := by unfold numV; rw [h]; simp [hn]
/-- A name that begins with the journal's and a dot. -/
theorem file_pre {p nm d : List UInt8} (h : nm = p ++ 46 :: d) (n : Nat) : nm = fileN p n ↔ d = Lib.itoa (n : Int) := by
  rw [h, fileN]
  simp
theorem file_of_pre (p : List UInt8) (n : Nat) : (fileN p n).take (p.length + 1) = p ++ [46] := by
  rw [fileN, show p ++ 46 :: Lib.itoa (n : Int) = (p ++ [46]) ++ Lib.itoa (n : Int) by simp]
  rw [List.take_left' (by simp)]
theorem atoi_file {d : List UInt8} {n : Nat} (h : d = Lib.itoa (n : Int)) (hn : n ≤ 9999999) : Lib.atoiAll d = .ok (n : Int) := by
  rw [h]; exact atoi_itoa n (by omega) (by omega)

set_option maxHeartbeats 4000000 in
theorem jnumber_any (w : World) (b f : Nat) (p : ByteArray) (most : Int) (s : ByteArray) (h : JAt w b f p most) (hp : p.size ≤ 100) (hs : s.size ≤ 1000000) (hstd : Std w) :
    Calls Tryz.prog 78 #[.pointer (some ⟨b, 0, none⟩), .string s] w fun e w' => e = .returned (numV p.data.toList s.data.toList) ∧ Bel w w' := by
  have HS := Lib.hid hstd; clear hstd
  have c1 := h.name
  clear h
  have n1 : ¬ 9223372036854775807 < p.size + 1 := by omega
  have hpt : (p ++ ⟨#[46]⟩ : ByteArray).data.toList = p.data.toList ++ [46] := by simp
  have hpz : (p ++ ⟨#[46]⟩ : ByteArray).size = p.size + 1 := by rw [ByteArray.size_append]; rfl
  have hpl : p.data.toList.length = p.size := rfl
  have hsl : s.data.toList.length = s.size := rfl
  obtain ⟨t, ht⟩ : ∃ t, t = (p ++ ⟨#[46]⟩ : ByteArray) := ⟨_, rfl⟩
  have HT := Lib.hid ht
  rw [← ht] at hpt hpz
  cases hpre : (s.data.toList.take t.size == t.data.toList) with
  | false =>
    have HN := Lib.hid (numV_none (p := p.data.toList) (nm := s.data.toList) (seg_none fun n h1 h2 e => by
      rw [beq_eq_false_iff_ne] at hpre
      apply hpre
      rw [e, hpz, ← hpl, file_of_pre, hpt]))
    have HP := Lib.hid hpre
    clear hpre hpt ht hpl hsl
    go_enter Tryz.func78, Tryz.ntmps78
    go_wp2_with (fail)
    rw [← HT.out]
    refine (cut_no s t _ hs (by omega) HP.out).mono ?_
    rintro e w1 ⟨rfl, hb⟩
    have HB := Lib.hid hb; clear hb
    go_wp2_with (fail)
    go_ret2
    exact ⟨by rw [HN.out]; rfl, HB.out⟩
  | true =>
    have hpe : s.data.toList.take t.size = p.data.toList ++ [46] := by rw [← hpt]; simpa using hpre
    obtain ⟨d, hd⟩ : ∃ d : ByteArray, d = s.extract t.size s.size := ⟨_, rfl⟩
    have hts : t.size ≤ s.size := by
      have h1 := congrArg List.length hpe
      rw [List.length_take, List.length_append, hpl, hsl] at h1
      simp at h1
      omega
    have hdl : d.data.toList = s.data.toList.drop t.size := by
      rw [hd, ByteArray.data_extract, Array.toList_extract, List.extract_eq_take_drop]
      exact List.take_of_length_le (by rw [List.length_drop, hsl]; omega)
    have hsd : s.data.toList = p.data.toList ++ 46 :: d.data.toList := by
      rw [hdl, show p.data.toList ++ 46 :: s.data.toList.drop t.size = (p.data.toList ++ [46]) ++ s.data.toList.drop t.size by simp, ← hpe, List.take_append_drop]
    have hdz : d.size ≤ 1000000 := by rw [hd, ByteArray.size_extract]; omega
    have HF := Lib.hid (fun n => file_pre hsd n)
    have HD := Lib.hid hd
    have HP := Lib.hid hpre
    clear hpre hpe hdl hd hpt ht hpl hsl hsd
    go_enter Tryz.func78, Tryz.ntmps78
    go_wp2_with (fail)
    rw [← HT.out]
    refine (cut_yes s t _ hs hts HP.out).mono ?_
    rintro e w1 ⟨rfl, hb⟩
    rw [← HD.out]
    have HB := Lib.hid hb; clear hb
    go_wp2_with (fail)
    refine (atoi_any d _ hdz (HS.out.bel HB.out)).mono ?_
    rintro e w2 (⟨v, rfl, hv, hb⟩ | ⟨v, T, q, rfl, hv, hb⟩)
    · have hbd := Lib.atoiAll_bounds hv
      have HB2 := Lib.hid (HB.out.trans hb)
      have HV := Lib.hid hv
      clear hb hv
      by_cases hv1 : v < 1
      · have HN := Lib.hid (numV_none (p := p.data.toList) (nm := s.data.toList) (seg_none fun n h1 h2 e => by
          have := atoi_file ((HF.out n).1 e) h2
          rw [HV.out] at this
          injection this with this
          omega))
        go_wp2_with (fail)
        go_ret2
        exact ⟨by rw [HN.out]; rfl, HB2.out⟩
      · by_cases hv2 : 9999999 < v
        · have HN := Lib.hid (numV_none (p := p.data.toList) (nm := s.data.toList) (seg_none fun n h1 h2 e => by
            have := atoi_file ((HF.out n).1 e) h2
            rw [HV.out] at this
            injection this with this
            omega))
          go_wp2_with (fail)
          go_ret2
          exact ⟨by rw [HN.out]; rfl, HB2.out⟩
        · obtain ⟨n, rfl⟩ : ∃ n : Nat, v = n := ⟨v.toNat, by omega⟩
          cases hc : ((Lib.itoa (n : Int)) == d.toList) with
          | true =>
            have hdn : d.data.toList = Lib.itoa (n : Int) := by rw [beq_iff_eq, ByteArray.toList_eq] at hc; exact hc.symm
            have HN := Lib.hid (numV_some (p := p.data.toList) (nm := s.data.toList) (n := n) (by rw [(HF.out n).2 hdn]; exact seg_file _ n (by omega) (by omega)) (by omega))
            clear hdn
            go_wp2_with (first
              | (go_at_call 100; refine (itoa_any n (by omega) (by omega) _ (HS.out.bel HB2.out)).mono ?_; rintro e w3 ⟨rfl, hb⟩; have HB3 := Lib.hid (HB2.out.trans hb); clear hb))
            go_ret2
            exact ⟨by rw [HN.out]; rfl, HB3.out⟩
          | false =>
            have HN := Lib.hid (numV_none (p := p.data.toList) (nm := s.data.toList) (seg_none fun m h1 h2 e => by
              have h3 := (HF.out m).1 e
              have := atoi_file h3 h2
              rw [HV.out] at this
              injection this with this
              have : n = m := by omega
              subst this
              rw [beq_eq_false_iff_ne, ByteArray.toList_eq] at hc
              exact hc h3.symm))
            go_wp2_with (first
              | (go_at_call 100; refine (itoa_any n (by omega) (by omega) _ (HS.out.bel HB2.out)).mono ?_; rintro e w3 ⟨rfl, hb⟩; have HB3 := Lib.hid (HB2.out.trans hb); clear hb))
            go_ret2
            exact ⟨by rw [HN.out]; rfl, HB3.out⟩
    · have HN := Lib.hid (numV_none (p := p.data.toList) (nm := s.data.toList) (seg_none fun n h1 h2 e => hv _ (atoi_file ((HF.out n).1 e) h2)))
      have HB2 := Lib.hid (HB.out.trans hb)
      clear hb hv
      go_wp2_with (fail)
      go_ret2
      exact ⟨by rw [HN.out]; rfl, HB2.out⟩
end Go.Proofs.YtedopiojidaeiaaGreatDoor
