/- FFind, FQuery, FAdmit, FTurn, FCl1, FCl2, FCl3, FOps, FOps2, FOps3, FCrsh, FCrash, FWf, FDoes, FSt, FMadeH, FRop, FRop2, FRadd, FRcr, laid together. -/
import Derived.Test.YtfbiinnenlgkfaaGreatDoorQ14
import Derived.Test.YtfbiinnenlgkfaaGreatDoorQ15
import Derived.Test.YtfbiinnenlgkfaaGreatDoorQ2
import Derived.Laws.BitsAllLaws
import Derived.Test.YtfbiinnenlgkfaaGreatDoorQ9
set_option linter.unusedSimpArgs false
set_option linter.unusedVariables false
namespace Go.Proofs.YtfbiinnenlgkfaaGreatDoor
open Go.RowKit Go.Deep Go.Maps

section
variable {n₀ : Nat} {w : World} {mb : Nat} {D : DataW Value} {V : List UInt8 → Value} {L : List FI} {e : Option (List UInt8)} {mv : Value} {F : List Nat}
theorem rv_held {v : Value} {z : DataW Value} {ps : List MemPlace} (h : RV v = some (z, ps)) : z = .held v := by
 simp only [RV, Option.some.injEq, Prod.mk.injEq] at h
 exact h.1.symm
theorem run_look_some (h : FilesV n₀ w mb D V L e) (s : ByteArray) (hs : s.size ≤ maxLen) {y : FI} (hy : getF s.data.toList L = some y) (c : Bool) :
  (Instr.lookup 111 (.map (some mb)) (.string s) c).run Tryz.prog w = .ok (if c then .tuple #[conV (V s.data.toList) y.safe, .bool true] else conV (V s.data.toList) y.safe) w := by
 have hh : Maps.has D (.string s.data.toList) = true := by rw [h.has, hy]; rfl
 cases c with
 | true =>
  obtain ⟨v, ps, hr, hv⟩ := h.own.look_ok keyLaw Tryz.underlying111 (zeroCon w) (zd := .held conZ) (zp := []) rfl (key_is s hs)
  rw [h.at_some hy, ] at hv
  have := rv_held hv
  simp only [DataW.held.injEq] at this
  rw [hr, hh, ← this]
  rfl
 | false =>
  obtain ⟨v, ps, hr, hv⟩ := h.own.lookup keyLaw Tryz.underlying111 (zeroCon w) (zd := .held conZ) (zp := []) rfl (key_is s hs)
  rw [h.at_some hy, ] at hv
  have := rv_held hv
  simp only [DataW.held.injEq] at this
  rw [hr, ← this]
  rfl
theorem run_look_none (h : FilesAt n₀ w mv L F) (s : ByteArray) (hs : s.size ≤ maxLen) (hy : getF s.data.toList L = none) (c : Bool) :
  (Instr.lookup 111 mv (.string s) c).run Tryz.prog w = .ok (if c then .tuple #[conZ, .bool false] else conZ) w := by
 rcases h with ⟨rfl, rfl⟩ | ⟨mb, D, V, rfl, h, _⟩
 ·exact Maps.look_nil c keyLaw Tryz.underlying111 (zeroCon w) (key_is s hs)
 have hh : Maps.has D (.string s.data.toList) = false := by rw [h.has, hy]; rfl
 cases c with
 | true =>
  obtain ⟨v, ps, hr, hv⟩ := h.own.look_ok keyLaw Tryz.underlying111 (zeroCon w) (zd := .held conZ) (zp := []) rfl (key_is s hs)
  rw [h.at_none hy, ] at hv
  have := rv_held hv
  simp only [DataW.held.injEq] at this
  rw [hr, hh, ← this]
  rfl
 | false =>
  obtain ⟨v, ps, hr, hv⟩ := h.own.lookup keyLaw Tryz.underlying111 (zeroCon w) (zd := .held conZ) (zp := []) rfl (key_is s hs)
  rw [h.at_none hy, ] at hv
  have := rv_held hv
  simp only [DataW.held.injEq] at this
  rw [hr, ← this]
  rfl
end
theorem wpList_look {w : World} {ops : Array Oper} {rest : List Oper} {o : Oper} {a : Act} {Q : Exit → Act → World → Prop} {c : Bool} {mv kv r : Value} (hrun : (Instr.lookup 111 mv kv c).run Tryz.prog w = .ok r w)
  (hg : o.guard = none) (m x : Operand) (hop : o.op = Op.lookup 111 m x c) (hm : a.eval m = mv) (hx : a.eval x = kv) (hK : wpList Tryz.prog ops Q rest (a.put o.dst r) w) : wpList Tryz.prog ops Q (o :: rest) a w := by
 refine wpList_plain hg fun K' hK' => ?_
 unfold Oper.wp
 simp [execOp, hop, hm, hx, hrun, Result.andThen]
 exact hK' _ _ hK

set_option maxHeartbeats 2000000 in
theorem find_gone (n₀ : Nat) (w : World) (b : Nat) (M : RS) (F : List Nat) (s : ByteArray) (h : ProgAt n₀ w b M F) (hgone : M.gone = true) :
  Calls Tryz.prog 119 #[.pointer (some ⟨b, 0, none⟩), .string s] w fun e w' => e = .returned (.tuple #[conZ, .int .i64 7]) ∧ Bel w w' := by
 obtain ⟨⟨mv, t, hb, -⟩, -⟩ := h
 have c4 : w.cell? ⟨b, 4, none⟩ = some (.bool true) := by simp [World.cell?, hb, hgone]
 clear hb hgone
 unfold conZ
 go_enter Tryz.func119, Tryz.ntmps119
 go_wp2_with (fail)
 exact bodyPost_ret (v := .tuple #[.agg #[.slice none 0 0, .int .i64 0], .int .i64 7]) (by simp [results, Tryz.results119, go_sem]) rfl ⟨rfl, (Bel.refl w).alloc _⟩
set_option maxHeartbeats 2000000 in
theorem find_none (n₀ : Nat) (w : World) (b : Nat) (M : RS) (F : List Nat) (s : ByteArray) (h : ProgAt n₀ w b M F) (hgone : M.gone = false) (hs : s.size ≤ maxLen) (hy : getF s.data.toList M.L = none) :
  Calls Tryz.prog 119 #[.pointer (some ⟨b, 0, none⟩), .string s] w fun e w' => e = .returned (.tuple #[conZ, .int .i64 4]) ∧ Bel w w' := by
 obtain ⟨⟨mv, t, hb, _, _, hf⟩, -⟩ := h
 have c4 : w.cell? ⟨b, 4, none⟩ = some (.bool false) := by simp [World.cell?, hb, hgone]
 have c1 : w.cell? ⟨b, 1, none⟩ = some mv := by simp [World.cell?, hb]
 have HF := Lib.hid hf
 have HY := Lib.hid hy
 clear hb hgone hf hy
 unfold conZ
 go_enter Tryz.func119, Tryz.ntmps119
 go_wp2_with (at_lookup; refine wpList_look (run_look_none (HF.out.bel ((Bel.refl w).alloc _)) s hs HY.out true) rfl _ _ rfl rfl rfl ?_; unfold conZ)
 exact bodyPost_ret (v := .tuple #[.agg #[.slice none 0 0, .int .i64 0], .int .i64 4]) (by simp [results, Tryz.results119, go_sem]) rfl ⟨rfl, ((Bel.refl w).alloc _).alloc _⟩
set_option maxHeartbeats 2000000 in
theorem find_some (n₀ : Nat) (w : World) (b : Nat) (M : RS) (mb : Nat) (t : Int) (D : DataW Value) (V : List UInt8 → Value) (s : ByteArray) (y : FI)
  (hb : w.heap[b]? = some (.cells #[.int .i64 M.room, .map (some mb), .bool (decide (0 ≤ M.turns)), .int .i64 t, .bool M.gone] 113 (0, 0))) (hV : FilesV n₀ w mb D V M.L none)
  (hgone : M.gone = false) (hs : s.size ≤ maxLen) (hy : getF s.data.toList M.L = some y) :
  Calls Tryz.prog 119 #[.pointer (some ⟨b, 0, none⟩), .string s] w fun e w' => e = .returned (.tuple #[conV (V s.data.toList) y.safe, .int .i64 0]) ∧ Bel w w' := by
 have c4 : w.cell? ⟨b, 4, none⟩ = some (.bool false) := by simp [World.cell?, hb, hgone]
 have c1 : w.cell? ⟨b, 1, none⟩ = some (.map (some mb)) := by simp [World.cell?, hb]
 have hv := hV.val y (getF_mem hy) (by simp)
 rw [getF_name hy] at hv
 obtain ⟨p, cap, hp, -⟩ := own_len hv
 have hr : ∀ x, Bel w x → (Instr.lookup 111 (.map (some mb)) (.string s) true).run Tryz.prog x = .ok (.tuple #[.agg #[.slice p y.bytes.length cap, .int .i64 y.safe], .bool true]) x := fun x hx => by
  have := run_look_some (hV.bel hx) s hs hy true
  rw [this, hp]; rfl
 have HR := Lib.hid hr
 rw [hp]
 unfold conV
 have hbl := block_lt_of_cell c4
 clear hb hgone hy hV hv hr hp
 go_enter Tryz.func119, Tryz.ntmps119
 go_wp2_with (at_lookup; refine wpList_look (HR.out _ ((Bel.refl w).alloc _)) rfl _ _ rfl rfl rfl ?_)
 exact bodyPost_ret (v := .tuple #[.agg #[.slice p y.bytes.length cap, .int .i64 y.safe], .int .i64 0]) (by simp [results, Tryz.results119, go_sem]) rfl ⟨rfl, ((Bel.refl w).alloc _).alloc _⟩

def getS (nm : List UInt8) (M : RS) : List UInt8 × Int := if M.gone then ([], 7) else match getF nm M.L with
 | some y => (y.bytes, 0)
 | none => ([], 4)
theorem conv_none (x : World) : (convert 114 9 (.slice none 0 0)).run Tryz.prog x = .ok (.string ⟨#[]⟩) x := own_string (Own.nil 0 x)
set_option maxHeartbeats 2000000 in
theorem pget_any (n₀ : Nat) (w : World) (b : Nat) (M : RS) (F : List Nat) (s : ByteArray) (h : ProgAt n₀ w b M F) (hs : s.size ≤ maxLen) :
  Calls Tryz.prog 118 #[.pointer (some ⟨b, 0, none⟩), .string s] w fun e w' =>
   e = .returned (.tuple #[.string ⟨(getS s.data.toList M).1.toArray⟩, .int .i64 (getS s.data.toList M).2]) ∧ Bel w w' := by
 have HP := Lib.hid h
 obtain ⟨⟨mv, t, hb, _, _, hf⟩, -⟩ := h
 cases hg : M.gone with
 | true =>
  have HG := Lib.hid (show getS s.data.toList M = ([], 7) by unfold getS; rw [hg]; rfl)
  have hc := conv_none
  have HG1 := Lib.hid hg
  clear hb hf hg
  go_enter Tryz.func118, Tryz.ntmps118
  go_wp2_with (fail)
  refine (find_gone n₀ _ b M F s HP.out HG1.out).mono ?_
  rintro e w1 ⟨rfl, hbl⟩
  have HB := Lib.hid hbl
  clear hbl
  unfold conZ
  go_wp2_with (fail)
  go_ret2
  exact ⟨by rw [HG.out]; rfl, HB.out.alloc _⟩
 | false =>
  cases hy : getF s.data.toList M.L with
  | none =>
   have HG := Lib.hid (show getS s.data.toList M = ([], 4) by unfold getS; rw [hg, hy]; rfl)
   have hc := conv_none
   have HG1 := Lib.hid hg
   have HY := Lib.hid hy
   clear hb hf hg hy
   go_enter Tryz.func118, Tryz.ntmps118
   go_wp2_with (fail)
   refine (find_none n₀ _ b M F s HP.out HG1.out hs HY.out).mono ?_
   rintro e w1 ⟨rfl, hbl⟩
   have HB := Lib.hid hbl
   clear hbl
   unfold conZ
   go_wp2_with (fail)
   go_ret2
   exact ⟨by rw [HG.out]; rfl, HB.out.alloc _⟩
  | some y =>
   rcases hf with ⟨_, hL⟩ | ⟨mb, D, V, rfl, hV, _⟩
   ·rw [hL] at hy; cases hy
   have HG := Lib.hid (show getS s.data.toList M = (y.bytes, 0) by unfold getS; rw [hg, hy]; rfl)
   have HC := Lib.hid (find_some n₀ w b M mb t D V s y hb hV hg hs hy)
   have hv := hV.val y (getF_mem hy) (by simp)
   rw [getF_name hy] at hv
   obtain ⟨p, cap, hp, -⟩ := own_len hv
   rw [hp] at hv HC
   have HV := Lib.hid hv
   unfold conV at HC
   clear hb hV hg hy hp hv
   go_enter Tryz.func118, Tryz.ntmps118
   go_wp2_with (fail)
   refine HC.out.mono ?_
   rintro e w1 ⟨rfl, hbl⟩
   have HB := Lib.hid hbl
   clear hbl
   have hc : ∀ o, (convert 114 9 (.slice p y.bytes.length cap)).run Tryz.prog (w1.alloc o) = .ok (.string ⟨y.bytes.toArray⟩) (w1.alloc o) := fun o => own_string (HV.out.bel (HB.out.alloc o))
   go_wp2_with (fail)
   go_ret2
   exact ⟨by rw [HG.out]; rfl, HB.out.alloc _⟩

def usedL (left : Lit → Bool) : List FI → Nat
 | [] => 0
 | x :: L => (if left (.string x.name) = true then 0 else x.bytes.length) + usedL left L
theorem used_start {left : Lit → Bool} {L : List FI} (h : ∀ x ∈ L, left (.string x.name) = true) : usedL left L = 0 := by
 induction L with
 | nil => rfl
 | cons x L ih => rw [usedL, if_pos (h x (by simp)), ih (fun y hy => h y (by simp [hy]))]
theorem used_end {left : Lit → Bool} (h : ∀ k, left k = false) (L : List FI) : usedL left L = bytesN L := by
 induction L with
 | nil => rfl
 | cons x L ih => rw [usedL, bytesN, ih, h]; rfl
theorem used_le (left : Lit → Bool) (L : List FI) : usedL left L ≤ bytesN L := by
 induction L with
 | nil => exact Nat.le_refl _
 | cons x L ih => rw [usedL, bytesN]; split <;> omega
theorem used_same {left left' : Lit → Bool} {L : List FI} (h : ∀ x ∈ L, left (.string x.name) = left' (.string x.name)) : usedL left L = usedL left' L := by
 induction L with
 | nil => rfl
 | cons x L ih => rw [usedL, usedL, h x (by simp), ih (fun y hy => h y (by simp [hy]))]
theorem used_step {left : Lit → Bool} {L : List FI} (hs : Srt L) {y : FI} (hy : y ∈ L) (hl : left (.string y.name) = true) :
  usedL (fun z => left z && !z.sameKey (.string y.name)) L = usedL left L + y.bytes.length := by
 induction L with
 | nil => cases hy
 | cons x L ih =>
  rw [srt_cons] at hs
  rw [usedL, usedL]
  rcases List.mem_cons.1 hy with rfl | hy'
  ·have e : usedL (fun z => left z && !z.sameKey (.string y.name)) L = usedL left L := used_same fun z hz => by
    have hne : z.name ≠ y.name := fun e => bl_ne (hs.1 z hz) e.symm
    simp [Lit.sameKey, hne]
   rw [e, hl]
   simp [Lit.sameKey]
   omega
  ·have hne : x.name ≠ y.name := bl_ne (hs.1 y hy')
   rw [ih hs.2 hy']
   simp [Lit.sameKey, hne]
   omega
theorem wpList_next_files {n₀ : Nat} {w : World} {mb : Nat} {D : DataW Value} {V : List UInt8 → Value} {L : List FI} {w₀ : World} (hV : FilesV n₀ w₀ mb D V L none) {ops : Array Oper} {rest : List Oper} {o : Oper} {a : Act} {Q : Exit → Act → World → Prop}
  (hg : o.guard = none) (it : Operand) (hop : o.op = Op.next it false) {r n : Nat} {left : Lit → Bool} {cnt : Nat} (hit : a.eval it = .pointer (some ⟨r, 0, none⟩)) (h : w.ranges Tryz.prog 9 RV mb r n D left cnt)
  (hDone : (∀ kl, left kl = false) → wpList Tryz.prog ops Q rest (a.put o.dst (.tuple #[.bool false])) w)
  (hMore : ∀ (y : FI) (p : Option Addr) (cap : Nat) (w' : World) (cnt' : Nat), y ∈ L → left (.string y.name) = true → w'.ranges Tryz.prog 9 RV mb r n D (fun z => left z && !z.sameKey (.string y.name)) cnt' → cnt' < cnt → w.grownBy w' (some r) →
   (Instr.entry (.pointer (some ⟨r, 0, none⟩))).run Tryz.prog w' = .ok (.tuple #[.string ⟨y.name.toArray⟩, .agg #[.slice p y.bytes.length cap, .int .i64 y.safe]]) w' →
   wpList Tryz.prog ops Q rest (a.put o.dst (.tuple #[.bool true, .string ⟨y.name.toArray⟩, .agg #[.slice p y.bytes.length cap, .int .i64 y.safe]])) w') :
  wpList Tryz.prog ops Q (o :: rest) a w := by
 refine wpList_next_ranges w hg it hop 9 keyLaw RV encStr id (fun key kl hk => by obtain ⟨x, hx, _⟩ := Maps.keyOf_str Tryz.underlying9 hk; exact ⟨x, hx⟩) (fun v y hv => ⟨v, rfl⟩) mb r n D left cnt hit h (fun _ hl => hDone hl) ?_
 intro x c kl y w' cnt' hkey hlk hv hat hrg hlt hgr hsz hen
 obtain ⟨x', ex, rfl, _⟩ := Maps.keyOf_str Tryz.underlying9 hkey
 obtain rfl : x = x' := encStr_inj ex
 have hh := Maps.has_true_of_atKey hat
 rw [hV.has] at hh
 obtain ⟨f, hf⟩ := Option.isSome_iff_exists.1 hh
 have hc := hat (.held conZ)
 rw [hV.at_some hf] at hc
 obtain ⟨y1, y2⟩ := y
 have := rv_held hv
 rw [this] at hc
 simp only [DataW.held.injEq, id_eq] at hc
 obtain rfl := getF_name hf
 have ho := hV.val f (getF_mem hf) (by simp)
 obtain ⟨p, cap, hp, -⟩ := own_len ho
 rw [hp] at hc
 rw [← hc] at hen ⊢
 exact hMore f p cap w' cnt' (getF_mem hf) hlk hrg hlt hgr hen
set_option maxHeartbeats 2000000 in
theorem pused_any (n₀ : Nat) (w : World) (b : Nat) (M : RS) (F : List Nat) (h : ProgAt n₀ w b M F) (hs : Srt M.L) (hB : bytesN M.L ≤ 1000000000) :
  Calls Tryz.prog 24 #[.pointer (some ⟨b, 0, none⟩)] w fun e w' => e = .returned (.int .i64 (bytesN M.L : Nat)) ∧ Bel w w' := by
 obtain ⟨⟨mv, t, hb, _, _, hf⟩, -⟩ := h
 have c1 : w.cell? ⟨b, 1, none⟩ = some mv := by simp [World.cell?, hb]
 clear hb
 rcases hf with ⟨rfl, hL⟩ | ⟨mb, D, V, rfl, hV, _⟩
 ·have HL := Lib.hid (show bytesN M.L = 0 by rw [hL]; rfl)
  clear hL
  have hrg := run_range_nilMap (P := Tryz.prog) w 111 9 116 Tryz.underlying111
  have hnx : ∀ ty, (Instr.next (.pointer (some ⟨w.heap.size, 0, none⟩)) false ty).run Tryz.prog (w.alloc (.mapIter none 0 #[] 0)) = _ := fun ty => run_next_nilMap w ty 0 0 #[]
  go_enter Tryz.func24, Tryz.ntmps24
  go_wp2
  refine wp_loop_rounds 1 ?_
  rw [rounds_succ]
  go_wp2
  go_ret
  exact ⟨by rw [HL.out]; rfl, (Bel.refl w).alloc _⟩
 ·have HV := Lib.hid hV
  have HS := Lib.hid hs
  have hown := Lib.hid hV.own
  have HH := Lib.hid (show ∀ x ∈ M.L, Maps.has D (.string x.name) = true from fun x hx => by rw [hV.has, getF_of_mem hs hx]; rfl)
  clear hV hs
  go_enter Tryz.func24, Tryz.ntmps24
  go_wp2_with (first
   | (at_range; refine wpList_range_own _ rfl _ 111 rfl 9 116 keyLaw Tryz.underlying111 RV mb _ D rfl hown.out ?_; intro w0 hrg0 hg0 hs0)
   | go_in)
  go_frame
  have HG0 := Lib.hid ((Keep.refl [] w).grown hg0 (fun r hr => by cases hr))
  have HR0 := Lib.hid hrg0
  clear hs0 hg0 hrg0
  go_loopw [3] (fun n x => ∃ (left : Lit → Bool) (cnt : Nat), x.ranges Tryz.prog 9 RV mb w.heap.size M.L.length D left cnt ∧ n = .int .i64 (usedL left M.L : Nat) ∧ Bel w x) (fun _ x => x.rangeLeft mb w.heap.size)
  case atStart => exact ⟨_, _, HR0.out, by rw [used_start HH.out]; rfl, HG0.out.bel (by simp)⟩
  case round =>
   obtain ⟨left, cnt, hrg, rfl, hbel⟩ := hrel
   have HRG := Lib.hid hrg
   have HB := Lib.hid hbel
   have HLE := Lib.hid (used_end (left := left) · M.L)
   clear hrg hbel
   go_wp2_with (first
    | (at_next; refine wpList_next_files HV.out rfl _ rfl rfl HRG.out ?_ ?_)
    | go_in)
   ·intro hl0
    go_wp2
    go_ret
    exact ⟨ret_int (by rw [HLE.out hl0]), HB.out⟩
   ·intro y p cap w1 cnt1 hy hlx hrg1 hlt hg1 hen
    have HRG1 := Lib.hid hrg1
    have HB1 := Lib.hid (HB.out.trans_below ((Below.refl _ _).grown hg1 (HRG.out.lt |> fun _ => HB.out.size) (fun k hk => by cases hk; exact Nat.le_refl _) |>.mono (Nat.le_refl _)))
    have HST := Lib.hid (used_step HS.out hy hlx)
    have hle := used_le (fun z => left z && !z.sameKey (.string y.name)) M.L
    rw [HST.out] at hle
    have HLT := Lib.hid hlt
    clear hrg1 hy hlx hg1 hlt
    generalize usedL left M.L = z at *
    go_wp2_with (fail)
    go_roundw
    case rel => exact ⟨_, cnt1, HRG1.out.alloc _, by rw [HST.out]; go_num, HB1.out.alloc _⟩
    case measure => rw [(HRG1.out.alloc _).left_eq, HRG.out.left_eq]; exact HLT.out

def strEl : El (List UInt8) := ⟨9, 71, 1, fun l => [.string ⟨l.toArray⟩]⟩
theorem strOk : ElOk strEl 16 := ⟨fun _ => rfl, fun a u hu => by simp [strEl] at hu; subst hu; rfl, by kernel_rfl, ⟨.string ⟨#[]⟩, by kernel_rfl, rfl⟩, by decide⟩
theorem str_all (L : List (List UInt8)) : strEl.all L = L.map encStr := by
 induction L with
 | nil => rfl
 | cons x L ih => simp only [El.all, List.flatMap_cons, List.map_cons] at *; rw [ih]; rfl
theorem names_sorted {L : List FI} (hs : Srt L) : (L.map (·.name)).Pairwise (fun a b => decide (a ≤ b) = true) := by
 rw [List.pairwise_map]
 refine hs.imp fun h => ?_
 rw [bytesLess_eq, decide_eq_true_eq] at h
 rw [decide_eq_true_eq]
 exact List.le_of_lt h
theorem names_nodup {L : List FI} (hs : Srt L) : (L.map (·.name)).Nodup := by
 rw [List.Nodup, List.pairwise_map]
 exact hs.imp fun h => bl_ne h
theorem names_of_perm {n₀ : Nat} {w : World} {mb : Nat} {D : DataW Value} {V : List UInt8 → Value} {L : List FI} (hV : FilesV n₀ w mb D V L none) (hs : Srt L) {ss : List (List UInt8)} (hp : ss.Perm (strKeys D)) :
  ss.mergeSort (fun x y => decide (x ≤ y)) = L.map (·.name) := by
 obtain ⟨es, hD, hpw, _⟩ := hV.own.entries keyLaw
 obtain ⟨es', hD', hko⟩ := hV.own.keysOf
 obtain rfl : es = es' := by rw [hD] at hD'; simpa using hD'
 have h1 : (L.map (·.name)).Perm (strKeys D) := by
  rw [hD]
  refine perm_strKeys hpw (fun p hp => by obtain ⟨v, hv⟩ := hko p hp; obtain ⟨x, _, hx, _⟩ := Maps.keyOf_str Tryz.underlying9 hv; exact ⟨x, hx⟩) (names_nodup hs) (fun x => ?_)
  rw [← hD, hV.has]
  constructor
  ·intro hx
   obtain ⟨y, hy, rfl⟩ := List.mem_map.1 hx
   rw [getF_of_mem hs hy]; rfl
  ·intro hx
   obtain ⟨y, hy⟩ := Option.isSome_iff_exists.1 hx
   exact List.mem_map.2 ⟨y, getF_mem hy, getF_name hy⟩
 rw [mergeSort_of_perm (hp.trans h1.symm)]
 exact List.mergeSort_of_pairwise (names_sorted hs)
set_option maxHeartbeats 2000000 in
theorem pnames_any (n₀ : Nat) (w : World) (b : Nat) (M : RS) (F : List Nat) (h : ProgAt n₀ w b M F) (hs : Srt M.L) (hL : M.L.length ≤ 1000) :
  Calls Tryz.prog 27 #[.pointer (some ⟨b, 0, none⟩)] w fun e w' => ∃ v, e = .returned v ∧ OwnG strEl w.heap.size w' v (M.L.map (·.name)) ∧ Bel w w' := by
 obtain ⟨⟨mv, t, hb, _, _, hf⟩, -⟩ := h
 have c1 : w.cell? ⟨b, 1, none⟩ = some mv := by simp [World.cell?, hb]
 clear hb
 rcases hf with ⟨rfl, hL0⟩ | ⟨mb, D, V, rfl, hV, _⟩
 ·have HL := Lib.hid hL0
  clear hL0
  go_enter Tryz.func27, Tryz.ntmps27
  go_wp2_with (first
   | (go_at_call 49; refine (callsIn_wide.1 (Tryz.maps_Keys_49 _ _)).mono ?_; rintro e w' ⟨rfl, rfl⟩)
   | (go_at_call 48; refine (callsIn_wide.1 (Tryz.slices_Sorted_keys_nil_48_49 w)).mono ?_; rintro e w' ⟨v, ss, rfl, hS, hrow, hnil, hb⟩))
  go_ret
  have hv := hnil.2 hS
  refine ⟨v, rfl, ?_, ((Below.refl _ w).alloc (Nat.le_refl _) _).trans (hb.mono (by simp))⟩
  rw [HL.out, hv]
  exact OwnG.nil _ _ _
 ·have HV := Lib.hid hV
  have HS := Lib.hid hs
  have hown := hV.own
  have hmax : Maps.size D ≤ maxLen := by rw [hV.size]; unfold maxLen; omega
  have hbytes : Maps.size D * 16 ≤ 140737488355328 := by rw [hV.size]; omega
  clear hV hs
  go_enter Tryz.func27, Tryz.ntmps27
  go_wp2_with (first
   | (go_at_call 49; refine (callsIn_wide.1 (Tryz.maps_Keys_49 _ _)).mono ?_; rintro e w' ⟨rfl, rfl⟩)
   | (go_at_call 48; refine (callsIn_wide.1 (Tryz.slices_Sorted_keys_48_49 mb _ D RV w hown hmax hbytes)).mono ?_; rintro e w' ⟨v, ss, rfl, hS, hrow, hnil, hb⟩))
  go_ret
  refine ⟨v, rfl, ?_, ((Below.refl _ w).alloc (Nat.le_refl _) _).trans (hb.mono (by simp))⟩
  rw [names_of_perm HV.out HS.out hS] at hrow
  have hlen : ss.length = (M.L.map (·.name)).length := by
   rw [← names_of_perm HV.out HS.out hS, List.length_mergeSort]
  rw [hlen] at hrow
  have h2 : OwnG strEl (w.alloc (.cells #[.map (some mb)] 111)).heap.size w' v (M.L.map (·.name)) := by
   unfold OwnG
   rw [str_all]
   exact hrow
  exact h2.low (by simp)

theorem wrap_in {n : Int} (h1 : -9223372036854775808 ≤ n) (h2 : n ≤ 9223372036854775807) : IntKind.i64.wrap n = n := by
 rw [IntKind.wrap_i64]
 try unfold wrap64
 omega
def admS (nm : List UInt8) (size : Nat) (M : RS) : Int :=
 if M.gone then 7 else if nameB nm = false then 3 else if (getF nm M.L).isSome = false ∧ 60 ≤ M.L.length then 11 else if M.room < (bytesN M.L : Int) + size then 6 else 0
section
variable {n₀ : Nat} {w x : World} {b : Nat} {M : RS} {F : List Nat} {mv : Value} {L : List FI}
theorem run_look_any (h : FilesAt n₀ w mv L F) (s : ByteArray) (hs : s.size ≤ maxLen) (c : Bool) : ∃ p n cap f, ∀ x, Bel w x →
  (Instr.lookup 111 mv (.string s) true).run Tryz.prog x = .ok (.tuple #[.agg #[.slice p n cap, .int .i64 f], .bool (getF s.data.toList L).isSome]) x := by
 cases hy : getF s.data.toList L with
 | none => exact ⟨none, 0, 0, 0, fun x hx => run_look_none (h.bel hx) s hs hy true⟩
 | some y =>
  rcases h with ⟨rfl, rfl⟩ | ⟨mb, D, V, rfl, hV, _⟩
  ·cases hy
  have hv := hV.val y (getF_mem hy) (by simp)
  rw [getF_name hy] at hv
  obtain ⟨p, cap, hp, -⟩ := own_len hv
  refine ⟨p, y.bytes.length, cap, y.safe, fun x hx => ?_⟩
  rw [run_look_some (hV.bel hx) s hs hy true, hp]; rfl
theorem run_len_any (h : FilesAt n₀ w mv L F) : ∀ x, Bel w x → ∀ ty, (Builtin.len_ #[111] ty #[mv]).run Tryz.prog x = .ok (.int .i64 (L.length : Nat)) x := by
 intro x hx ty
 rcases h with ⟨rfl, rfl⟩ | ⟨mb, D, V, rfl, hV, _⟩
 ·exact Maps.len_nil Tryz.underlying111 ty
 ·rw [(hV.bel hx).own.len Tryz.underlying111 ty, hV.size]
end
set_option maxHeartbeats 4000000 in
theorem admits_any (n₀ : Nat) (w : World) (b : Nat) (M : RS) (F : List Nat) (s : ByteArray) (k : Nat) (h : ProgAt n₀ w b M F) (hs : s.size ≤ 1000000) (hk : k ≤ 1000000) (hS : Srt M.L) (hB : bytesN M.L ≤ 1000000000) (hL : M.L.length ≤ 1000) (hroom : 0 ≤ M.room ∧ M.room ≤ 10000000) :
    Calls Tryz.prog 60 #[.pointer (some ⟨b, 0, none⟩), .string s, .int .i64 k] w fun e w' => e = .returned (.int .i64 (admS s.data.toList k M)) ∧ Bel w w' := by
  have HP := Lib.hid h
  obtain ⟨⟨mv, t, hb, _, _, hf⟩, -⟩ := h
  have c0 : w.cell? ⟨b, 0, none⟩ = some (.int .i64 M.room) := by simp [World.cell?, hb]
  have c1 : w.cell? ⟨b, 1, none⟩ = some mv := by simp [World.cell?, hb]
  have c4 : w.cell? ⟨b, 4, none⟩ = some (.bool M.gone) := by simp [World.cell?, hb]
  have hbl := block_lt_of_cell c0
  have hsm := Lib.hid (show s.size ≤ maxLen by unfold maxLen; omega)
  obtain ⟨p, n, cap, f, hlk⟩ := run_look_any hf s hsm.out true
  have HLK := Lib.hid hlk
  have HLN := Lib.hid (run_len_any hf)
  have HSR := Lib.hid hS
  obtain ⟨hr1, hr2⟩ := hroom
  clear hb hf hlk hS
  have W1 := Lib.hid ((Bel.refl w).alloc (.cells #[.slice p n cap, .int .i64 f] 116))
  cases hg : M.gone with
  | true =>
    have HA := Lib.hid (show admS s.data.toList k M = 7 by unfold admS; rw [if_pos hg])
    rw [hg] at c4
    clear hg
    go_enter Tryz.func60, Tryz.ntmps60
    go_wp2_with (at_lookup; refine wpList_look (HLK.out _ (Bel.refl _)) rfl _ _ rfl rfl rfl ?_)
    go_ret
    exact ⟨ret_int (by rw [HA.out]), (Bel.refl w).alloc _⟩
  | false =>
    rw [hg] at c4
    cases hn : nameB s.data.toList with
    | false =>
      have HA := Lib.hid (show admS s.data.toList k M = 3 by unfold admS; rw [hg, hn]; rfl)
      have HN := Lib.hid hn
      clear hg hn
      go_enter Tryz.func60, Tryz.ntmps60
      go_wp2_with (first
        | (at_lookup; refine wpList_look (HLK.out _ (Bel.refl _)) rfl _ _ rfl rfl rfl ?_)
        | (go_at_call 97; refine (isname_any s _ hsm.out).mono ?_; rintro e w1 ⟨rfl, hd⟩; rw [HN.out]; have HD := Lib.hid hd; clear hd))
      go_ret
      exact ⟨ret_int (by rw [HA.out]), W1.out.trans HD.out.bel⟩
    | true =>
      have HN := Lib.hid hn
      by_cases hm : (getF s.data.toList M.L).isSome = false ∧ 60 ≤ M.L.length
      · have HA := Lib.hid (show admS s.data.toList k M = 11 by unfold admS; rw [hg, hn, if_pos hm]; rfl)
        obtain ⟨hm1, hm2⟩ := hm
        rw [hm1] at HLK
        clear hg hn hm1
        go_enter Tryz.func60, Tryz.ntmps60
        go_wp2_with (first
          | (at_lookup; refine wpList_look (HLK.out _ (Bel.refl _)) rfl _ _ rfl rfl rfl ?_)
          | (go_at_call 97; refine (isname_any s _ hsm.out).mono ?_; rintro e w1 ⟨rfl, hd⟩; rw [HN.out]
             have HD := Lib.hid (W1.out.trans hd.bel)
             have hln := HLN.out _ HD.out
             have c1' := cell_later HD.out c1
             have c4' := cell_later HD.out c4
             clear hd))
        go_ret
        exact ⟨ret_int (by rw [HA.out]), HD.out⟩
      · have hroad : (getF s.data.toList M.L).isSome = true ∨ ((getF s.data.toList M.L).isSome = false ∧ M.L.length < 60) := by
          cases hi : (getF s.data.toList M.L).isSome with
          | true => exact Or.inl rfl
          | false => exact Or.inr ⟨rfl, by rw [hi] at hm; simp at hm; exact hm⟩
        by_cases hfull : M.room < (bytesN M.L : Int) + k
        · have HA := Lib.hid (show admS s.data.toList k M = 6 by unfold admS; rw [hg, hn, if_neg hm, if_pos hfull]; rfl)
          have hf2 : M.room - (bytesN M.L : Int) < (k : Int) := by omega
          clear hg hn hm
          rcases hroad with hi | ⟨hi, hlt⟩
          · rw [hi] at HLK
            clear hi
            go_enter Tryz.func60, Tryz.ntmps60
            go_wp2_with (first
              | (at_lookup; refine wpList_look (HLK.out _ (Bel.refl _)) rfl _ _ rfl rfl rfl ?_)
              | (go_at_call 97; refine (isname_any s _ hsm.out).mono ?_; rintro e w1 ⟨rfl, hd⟩; rw [HN.out]
                 have HD := Lib.hid (W1.out.trans hd.bel)
                 have hln := HLN.out _ HD.out
                 have c0' := cell_later HD.out c0
                 have c1' := cell_later HD.out c1
                 have c4' := cell_later HD.out c4
                 clear hd))
            have hwr : IntKind.i64.wrap (M.room - (bytesN M.L : Int)) = M.room - (bytesN M.L : Int) := wrap_in (by omega) (by omega)
            refine wp_region_held_drew (S := fun y => y.cell? ⟨b, 0, none⟩ = some (.int .i64 M.room)) (by kernel_rfl) c0' (fun hHeld => ?_)
            refine tq ⟨some 39, .move (.tmp 2), 3, "file.go:52", #[], none⟩ ?_ 0 rfl ?_ ?_;rotate_left;·(intros;go_simp<;>with_reducible rfl)
            try simp only[Act.put,sqA,sqB,sqC]
            refine tq ⟨some 40, .move (.tmp 0), 55, "file.go:52", #[], none⟩ ?_ 1 rfl ?_ ?_;rotate_left;·(intros;go_simp<;>with_reducible rfl)
            try simp only[Act.put,sqA,sqB,sqC]
            refine tq ⟨some 41, .nilCheck (.tmp 40), 0, "file.go:52", #[⟨1, .data⟩], none⟩ ?_ 2 rfl ?_ ?_;rotate_left;·(intros;go_simp<;>with_reducible rfl)
            try simp only[Act.put,sqA,sqB,sqC]
            refine tq ⟨some 42, .fieldAddr 113 (.tmp 41) 0, 0, "file.go:52", #[⟨2, .data⟩], none⟩ ?_ 3 rfl ?_ ?_;rotate_left;·(intros;go_simp<;>with_reducible rfl)
            try simp only[Act.put,sqA,sqB,sqC]
            refine tq ⟨some 43, .load 3 (.tmp 42), 3, "file.go:52", #[⟨3, .data⟩], none⟩ ?_ 4 rfl ?_ ?_;rotate_left;·(intros;go_simp<;>with_reducible rfl)
            try simp only[Act.put,sqA,sqB,sqC]
            refine tq ⟨some 44, .move (.tmp 0), 55, "file.go:52", #[], none⟩ ?_ 5 rfl ?_ ?_;rotate_left;·(intros;go_simp<;>with_reducible rfl)
            try simp only[Act.put,sqA,sqB,sqC]
            refine wpAnyH_ready (rs := [6]) (by kernel_rfl) (by simp) ?_
            refine ar1 ⟨some 45, .call ⟨.value (.func 24), #[.tmp 44], #[55]⟩, 3, "file.go:52", #[⟨5, .data⟩], none⟩ rfl (fun K hK => ?_)
            go_simp
            refine (pused_any n₀ _ b M F (HP.out.bel HD.out.drew) HSR.out hB).mono ?_
            rintro e w2 ⟨rfl, hb2⟩
            have d0 := cell_later hb2 (show w1.drew.cell? ⟨b, 0, none⟩ = _ from c0')
            have D1 := Lib.hid (HD.out.drew.trans hb2)
            clear hb2
            dsimp only
            refine hK.out _ _ d0 (fun hHeld => ?_);clear hK K;try simp only[Act.put,sqA,sqB,sqC]
            refine tq ⟨some 46, .binOp .sub 3 (.tmp 43) (.tmp 45) 3, 3, "file.go:52", #[⟨4, .data⟩, ⟨6, .data⟩], none⟩ ?_ 7 rfl ?_ ?_;rotate_left;·(intros;go_simp<;>with_reducible rfl)
            try simp only[Act.put,sqA,sqB,sqC]
            refine tq ⟨some 47, .binOp .gtr 3 (.tmp 39) (.tmp 46) 3, 4, "file.go:52", #[⟨0, .data⟩, ⟨7, .data⟩], none⟩ ?_ 8 rfl ?_ ?_;rotate_left;·(intros;go_simp<;>with_reducible rfl)
            try simp only[Act.put,sqA,sqB,sqC]
            refine tq ⟨some 38, .assign (.tmp 47), 4, "file.go:52", #[⟨8, .data⟩, ⟨6, .chain⟩], none⟩ ?_ 9 rfl ?_ ?_;rotate_left;·(intros;go_simp<;>with_reducible rfl)
            try simp only[Act.put,sqA,sqB,sqC]
            refine wpAnyH_done (by kernel_rfl) ?_ _
            go_wp2_with (fail)
            go_ret
            exact ⟨ret_int (by rw [HA.out]), D1.out⟩
          · rw [hi] at HLK
            clear hi
            go_enter Tryz.func60, Tryz.ntmps60
            go_wp2_with (first
              | (at_lookup; refine wpList_look (HLK.out _ (Bel.refl _)) rfl _ _ rfl rfl rfl ?_)
              | (go_at_call 97; refine (isname_any s _ hsm.out).mono ?_; rintro e w1 ⟨rfl, hd⟩; rw [HN.out]
                 have HD := Lib.hid (W1.out.trans hd.bel)
                 have hln := HLN.out _ HD.out
                 have c0' := cell_later HD.out c0
                 have c1' := cell_later HD.out c1
                 have c4' := cell_later HD.out c4
                 clear hd))
            have hwr : IntKind.i64.wrap (M.room - (bytesN M.L : Int)) = M.room - (bytesN M.L : Int) := wrap_in (by omega) (by omega)
            refine wp_region_held_drew (S := fun y => y.cell? ⟨b, 0, none⟩ = some (.int .i64 M.room)) (by kernel_rfl) c0' (fun hHeld => ?_)
            refine tq ⟨some 39, .move (.tmp 2), 3, "file.go:52", #[], none⟩ ?_ 0 rfl ?_ ?_;rotate_left;·(intros;go_simp<;>with_reducible rfl)
            try simp only[Act.put,sqA,sqB,sqC]
            refine tq ⟨some 40, .move (.tmp 0), 55, "file.go:52", #[], none⟩ ?_ 1 rfl ?_ ?_;rotate_left;·(intros;go_simp<;>with_reducible rfl)
            try simp only[Act.put,sqA,sqB,sqC]
            refine tq ⟨some 41, .nilCheck (.tmp 40), 0, "file.go:52", #[⟨1, .data⟩], none⟩ ?_ 2 rfl ?_ ?_;rotate_left;·(intros;go_simp<;>with_reducible rfl)
            try simp only[Act.put,sqA,sqB,sqC]
            refine tq ⟨some 42, .fieldAddr 113 (.tmp 41) 0, 0, "file.go:52", #[⟨2, .data⟩], none⟩ ?_ 3 rfl ?_ ?_;rotate_left;·(intros;go_simp<;>with_reducible rfl)
            try simp only[Act.put,sqA,sqB,sqC]
            refine tq ⟨some 43, .load 3 (.tmp 42), 3, "file.go:52", #[⟨3, .data⟩], none⟩ ?_ 4 rfl ?_ ?_;rotate_left;·(intros;go_simp<;>with_reducible rfl)
            try simp only[Act.put,sqA,sqB,sqC]
            refine tq ⟨some 44, .move (.tmp 0), 55, "file.go:52", #[], none⟩ ?_ 5 rfl ?_ ?_;rotate_left;·(intros;go_simp<;>with_reducible rfl)
            try simp only[Act.put,sqA,sqB,sqC]
            refine wpAnyH_ready (rs := [6]) (by kernel_rfl) (by simp) ?_
            refine ar1 ⟨some 45, .call ⟨.value (.func 24), #[.tmp 44], #[55]⟩, 3, "file.go:52", #[⟨5, .data⟩], none⟩ rfl (fun K hK => ?_)
            go_simp
            refine (pused_any n₀ _ b M F (HP.out.bel HD.out.drew) HSR.out hB).mono ?_
            rintro e w2 ⟨rfl, hb2⟩
            have d0 := cell_later hb2 (show w1.drew.cell? ⟨b, 0, none⟩ = _ from c0')
            have D1 := Lib.hid (HD.out.drew.trans hb2)
            clear hb2
            dsimp only
            refine hK.out _ _ d0 (fun hHeld => ?_);clear hK K;try simp only[Act.put,sqA,sqB,sqC]
            refine tq ⟨some 46, .binOp .sub 3 (.tmp 43) (.tmp 45) 3, 3, "file.go:52", #[⟨4, .data⟩, ⟨6, .data⟩], none⟩ ?_ 7 rfl ?_ ?_;rotate_left;·(intros;go_simp<;>with_reducible rfl)
            try simp only[Act.put,sqA,sqB,sqC]
            refine tq ⟨some 47, .binOp .gtr 3 (.tmp 39) (.tmp 46) 3, 4, "file.go:52", #[⟨0, .data⟩, ⟨7, .data⟩], none⟩ ?_ 8 rfl ?_ ?_;rotate_left;·(intros;go_simp<;>with_reducible rfl)
            try simp only[Act.put,sqA,sqB,sqC]
            refine tq ⟨some 38, .assign (.tmp 47), 4, "file.go:52", #[⟨8, .data⟩, ⟨6, .chain⟩], none⟩ ?_ 9 rfl ?_ ?_;rotate_left;·(intros;go_simp<;>with_reducible rfl)
            try simp only[Act.put,sqA,sqB,sqC]
            refine wpAnyH_done (by kernel_rfl) ?_ _
            go_wp2_with (fail)
            go_ret
            exact ⟨ret_int (by rw [HA.out]), D1.out⟩
        · have HA := Lib.hid (show admS s.data.toList k M = 0 by unfold admS; rw [hg, hn, if_neg hm, if_neg hfull]; rfl)
          have hf2 : ¬ (M.room - (bytesN M.L : Int) < (k : Int)) := by omega
          clear hg hn hm
          rcases hroad with hi | ⟨hi, hlt⟩
          · rw [hi] at HLK
            clear hi
            go_enter Tryz.func60, Tryz.ntmps60
            go_wp2_with (first
              | (at_lookup; refine wpList_look (HLK.out _ (Bel.refl _)) rfl _ _ rfl rfl rfl ?_)
              | (go_at_call 97; refine (isname_any s _ hsm.out).mono ?_; rintro e w1 ⟨rfl, hd⟩; rw [HN.out]
                 have HD := Lib.hid (W1.out.trans hd.bel)
                 have hln := HLN.out _ HD.out
                 have c0' := cell_later HD.out c0
                 have c1' := cell_later HD.out c1
                 have c4' := cell_later HD.out c4
                 clear hd))
            have hwr : IntKind.i64.wrap (M.room - (bytesN M.L : Int)) = M.room - (bytesN M.L : Int) := wrap_in (by omega) (by omega)
            refine wp_region_held_drew (S := fun y => y.cell? ⟨b, 0, none⟩ = some (.int .i64 M.room)) (by kernel_rfl) c0' (fun hHeld => ?_)
            refine tq ⟨some 39, .move (.tmp 2), 3, "file.go:52", #[], none⟩ ?_ 0 rfl ?_ ?_;rotate_left;·(intros;go_simp<;>with_reducible rfl)
            try simp only[Act.put,sqA,sqB,sqC]
            refine tq ⟨some 40, .move (.tmp 0), 55, "file.go:52", #[], none⟩ ?_ 1 rfl ?_ ?_;rotate_left;·(intros;go_simp<;>with_reducible rfl)
            try simp only[Act.put,sqA,sqB,sqC]
            refine tq ⟨some 41, .nilCheck (.tmp 40), 0, "file.go:52", #[⟨1, .data⟩], none⟩ ?_ 2 rfl ?_ ?_;rotate_left;·(intros;go_simp<;>with_reducible rfl)
            try simp only[Act.put,sqA,sqB,sqC]
            refine tq ⟨some 42, .fieldAddr 113 (.tmp 41) 0, 0, "file.go:52", #[⟨2, .data⟩], none⟩ ?_ 3 rfl ?_ ?_;rotate_left;·(intros;go_simp<;>with_reducible rfl)
            try simp only[Act.put,sqA,sqB,sqC]
            refine tq ⟨some 43, .load 3 (.tmp 42), 3, "file.go:52", #[⟨3, .data⟩], none⟩ ?_ 4 rfl ?_ ?_;rotate_left;·(intros;go_simp<;>with_reducible rfl)
            try simp only[Act.put,sqA,sqB,sqC]
            refine tq ⟨some 44, .move (.tmp 0), 55, "file.go:52", #[], none⟩ ?_ 5 rfl ?_ ?_;rotate_left;·(intros;go_simp<;>with_reducible rfl)
            try simp only[Act.put,sqA,sqB,sqC]
            refine wpAnyH_ready (rs := [6]) (by kernel_rfl) (by simp) ?_
            refine ar1 ⟨some 45, .call ⟨.value (.func 24), #[.tmp 44], #[55]⟩, 3, "file.go:52", #[⟨5, .data⟩], none⟩ rfl (fun K hK => ?_)
            go_simp
            refine (pused_any n₀ _ b M F (HP.out.bel HD.out.drew) HSR.out hB).mono ?_
            rintro e w2 ⟨rfl, hb2⟩
            have d0 := cell_later hb2 (show w1.drew.cell? ⟨b, 0, none⟩ = _ from c0')
            have D1 := Lib.hid (HD.out.drew.trans hb2)
            clear hb2
            dsimp only
            refine hK.out _ _ d0 (fun hHeld => ?_);clear hK K;try simp only[Act.put,sqA,sqB,sqC]
            refine tq ⟨some 46, .binOp .sub 3 (.tmp 43) (.tmp 45) 3, 3, "file.go:52", #[⟨4, .data⟩, ⟨6, .data⟩], none⟩ ?_ 7 rfl ?_ ?_;rotate_left;·(intros;go_simp<;>with_reducible rfl)
            try simp only[Act.put,sqA,sqB,sqC]
            refine tq ⟨some 47, .binOp .gtr 3 (.tmp 39) (.tmp 46) 3, 4, "file.go:52", #[⟨0, .data⟩, ⟨7, .data⟩], none⟩ ?_ 8 rfl ?_ ?_;rotate_left;·(intros;go_simp<;>with_reducible rfl)
            try simp only[Act.put,sqA,sqB,sqC]
            refine tq ⟨some 38, .assign (.tmp 47), 4, "file.go:52", #[⟨8, .data⟩, ⟨6, .chain⟩], none⟩ ?_ 9 rfl ?_ ?_;rotate_left;·(intros;go_simp<;>with_reducible rfl)
            try simp only[Act.put,sqA,sqB,sqC]
            refine wpAnyH_done (by kernel_rfl) ?_ _
            go_wp2_with (fail)
            go_ret
            exact ⟨ret_int (by rw [HA.out]), D1.out⟩
          · rw [hi] at HLK
            clear hi
            go_enter Tryz.func60, Tryz.ntmps60
            go_wp2_with (first
              | (at_lookup; refine wpList_look (HLK.out _ (Bel.refl _)) rfl _ _ rfl rfl rfl ?_)
              | (go_at_call 97; refine (isname_any s _ hsm.out).mono ?_; rintro e w1 ⟨rfl, hd⟩; rw [HN.out]
                 have HD := Lib.hid (W1.out.trans hd.bel)
                 have hln := HLN.out _ HD.out
                 have c0' := cell_later HD.out c0
                 have c1' := cell_later HD.out c1
                 have c4' := cell_later HD.out c4
                 clear hd))
            have hwr : IntKind.i64.wrap (M.room - (bytesN M.L : Int)) = M.room - (bytesN M.L : Int) := wrap_in (by omega) (by omega)
            refine wp_region_held_drew (S := fun y => y.cell? ⟨b, 0, none⟩ = some (.int .i64 M.room)) (by kernel_rfl) c0' (fun hHeld => ?_)
            refine tq ⟨some 39, .move (.tmp 2), 3, "file.go:52", #[], none⟩ ?_ 0 rfl ?_ ?_;rotate_left;·(intros;go_simp<;>with_reducible rfl)
            try simp only[Act.put,sqA,sqB,sqC]
            refine tq ⟨some 40, .move (.tmp 0), 55, "file.go:52", #[], none⟩ ?_ 1 rfl ?_ ?_;rotate_left;·(intros;go_simp<;>with_reducible rfl)
            try simp only[Act.put,sqA,sqB,sqC]
            refine tq ⟨some 41, .nilCheck (.tmp 40), 0, "file.go:52", #[⟨1, .data⟩], none⟩ ?_ 2 rfl ?_ ?_;rotate_left;·(intros;go_simp<;>with_reducible rfl)
            try simp only[Act.put,sqA,sqB,sqC]
            refine tq ⟨some 42, .fieldAddr 113 (.tmp 41) 0, 0, "file.go:52", #[⟨2, .data⟩], none⟩ ?_ 3 rfl ?_ ?_;rotate_left;·(intros;go_simp<;>with_reducible rfl)
            try simp only[Act.put,sqA,sqB,sqC]
            refine tq ⟨some 43, .load 3 (.tmp 42), 3, "file.go:52", #[⟨3, .data⟩], none⟩ ?_ 4 rfl ?_ ?_;rotate_left;·(intros;go_simp<;>with_reducible rfl)
            try simp only[Act.put,sqA,sqB,sqC]
            refine tq ⟨some 44, .move (.tmp 0), 55, "file.go:52", #[], none⟩ ?_ 5 rfl ?_ ?_;rotate_left;·(intros;go_simp<;>with_reducible rfl)
            try simp only[Act.put,sqA,sqB,sqC]
            refine wpAnyH_ready (rs := [6]) (by kernel_rfl) (by simp) ?_
            refine ar1 ⟨some 45, .call ⟨.value (.func 24), #[.tmp 44], #[55]⟩, 3, "file.go:52", #[⟨5, .data⟩], none⟩ rfl (fun K hK => ?_)
            go_simp
            refine (pused_any n₀ _ b M F (HP.out.bel HD.out.drew) HSR.out hB).mono ?_
            rintro e w2 ⟨rfl, hb2⟩
            have d0 := cell_later hb2 (show w1.drew.cell? ⟨b, 0, none⟩ = _ from c0')
            have D1 := Lib.hid (HD.out.drew.trans hb2)
            clear hb2
            dsimp only
            refine hK.out _ _ d0 (fun hHeld => ?_);clear hK K;try simp only[Act.put,sqA,sqB,sqC]
            refine tq ⟨some 46, .binOp .sub 3 (.tmp 43) (.tmp 45) 3, 3, "file.go:52", #[⟨4, .data⟩, ⟨6, .data⟩], none⟩ ?_ 7 rfl ?_ ?_;rotate_left;·(intros;go_simp<;>with_reducible rfl)
            try simp only[Act.put,sqA,sqB,sqC]
            refine tq ⟨some 47, .binOp .gtr 3 (.tmp 39) (.tmp 46) 3, 4, "file.go:52", #[⟨0, .data⟩, ⟨7, .data⟩], none⟩ ?_ 8 rfl ?_ ?_;rotate_left;·(intros;go_simp<;>with_reducible rfl)
            try simp only[Act.put,sqA,sqB,sqC]
            refine tq ⟨some 38, .assign (.tmp 47), 4, "file.go:52", #[⟨8, .data⟩, ⟨6, .chain⟩], none⟩ ?_ 9 rfl ?_ ?_;rotate_left;·(intros;go_simp<;>with_reducible rfl)
            try simp only[Act.put,sqA,sqB,sqC]
            refine wpAnyH_done (by kernel_rfl) ?_ _
            go_wp2_with (fail)
            go_ret
            exact ⟨ret_int (by rw [HA.out]), D1.out⟩

def Hdr (w : World) (b : Nat) (M : RS) (mv : Value) (t : Int) : Prop :=
 w.heap[b]? = some (.cells #[.int .i64 M.room, mv, .bool (decide (0 ≤ M.turns)), .int .i64 t, .bool M.gone] 113 (0, 0)) ∧ (0 ≤ M.turns → t = M.turns) ∧ in64 t
theorem turnS_zero {M : RS} (h : M.turns = 0) : turnS M = (7, { M with gone := true }) := by unfold turnS; rw [if_pos h]
theorem turnS_pos {M : RS} (h : 0 < M.turns) : turnS M = (0, { M with turns := M.turns - 1 }) := by unfold turnS; rw [if_neg (by omega), if_pos h]
theorem turnS_neg {M : RS} (h : M.turns < 0) : turnS M = (0, M) := by unfold turnS; rw [if_neg (by omega), if_neg (by omega)]
set_option maxHeartbeats 2000000 in
theorem pturn_any (w : World) (b : Nat) (M : RS) (mv : Value) (t : Int) (g : Nat) (lb : Array Value) (h : Hdr w b M mv t) (R : World → Prop) (hcall : ∀ x : World, (callFunc g lb).run Tryz.prog x = .ok (.enter g lb) x)
  (hc : ∀ w1 t1, Hdr w1 b (turnS M).2 mv t1 → Keep [b] w w1 → Calls Tryz.prog g lb w1 fun e w' => e = .returned (.tuple #[]) ∧ R w') :
  Calls Tryz.prog 61 #[.pointer (some ⟨b, 0, none⟩), .func (.func g) #[] lb] w fun e w' => e = .returned (.int .i64 (turnS M).1) ∧
   (M.turns = 0 → Hdr w' b (turnS M).2 mv t ∧ Keep [b] w w') ∧ (M.turns ≠ 0 → R w') := by
 obtain ⟨hb, ht, h64⟩ := h
 have c2 : w.cell? ⟨b, 2, none⟩ = some (.bool (decide (0 ≤ M.turns))) := by simp [World.cell?, hb]
 have c3 : w.cell? ⟨b, 3, none⟩ = some (.int .i64 t) := by simp [World.cell?, hb]
 have c4 : w.cell? ⟨b, 4, none⟩ = some (.bool M.gone) := by simp [World.cell?, hb]
 have f3 : w.frozen? ⟨b, 3, none⟩ = false := by simp [World.frozen?, hb]
 have f4 : w.frozen? ⟨b, 4, none⟩ = false := by simp [World.frozen?, hb]
 have HB := Lib.hid hb
 have HC := Lib.hid hc
 have H64 := Lib.hid h64
 clear hc hb
 rcases Int.lt_trichotomy M.turns 0 with hz | hz | hz
 ·have hd : decide (0 ≤ M.turns) = false := by rw [decide_eq_false_iff_not]; omega
  rw [turnS_neg hz] at HC ⊢
  have HW := Lib.hid (HC.out w t ⟨HB.out, ht, h64⟩ (Keep.refl _ w))
  have HN := Lib.hid (show M.turns ≠ 0 by omega)
  rw [hd] at c2
  clear hd ht h64 hz
  go_enter Tryz.func61, Tryz.ntmps61
  go_wp2_with (fail)
  refine HW.out.mono ?_
  rintro e w1 ⟨rfl, hr⟩
  have HR := Lib.hid hr
  clear hr
  go_wp2_with (fail)
  go_ret
  exact ⟨rfl, fun h => absurd h HN.out, fun _ => HR.out⟩
 ·have hd : decide (0 ≤ M.turns) = true := by rw [decide_eq_true_eq]; omega
  have hD := Lib.hid hd
  rw [turnS_zero hz] at HC ⊢
  rw [hd] at c2
  have HZ := Lib.hid hz
  have hT := Lib.hid ht
  have ht0 : t = 0 := by rw [ht (by omega)]; exact hz
  subst ht0
  clear hd ht h64 hz
  go_enter Tryz.func61, Tryz.ntmps61
  go_wp2_with (fail)
  go_ret
  exact ⟨rfl, fun _ => ⟨⟨by rw [blk_set HB.out 4 _]; rfl, hT.out, H64.out⟩, keep_set w b 4 _⟩, fun h => absurd HZ.out h⟩
 ·have hd : decide (0 ≤ M.turns) = true := by rw [decide_eq_true_eq]; omega
  have hd' : decide (0 ≤ M.turns - 1) = true := by rw [decide_eq_true_eq]; omega
  rw [turnS_pos hz] at HC ⊢
  have ht0 : t = M.turns := ht (by omega)
  subst ht0
  obtain ⟨h1, h2⟩ := h64
  have HW := Lib.hid (HC.out (w.setCell ⟨b, 3, none⟩ (.int .i64 (M.turns - 1))) (M.turns - 1) ⟨by rw [blk_set HB.out 3 _]; simp only [hd, hd']; rfl, fun _ => rfl, by unfold in64; omega⟩ (keep_set w b 3 _))
  have HN := Lib.hid (show M.turns ≠ 0 by omega)
  have hne : (M.turns == 0) = false := by rw [beq_eq_false_iff_ne]; omega
  rw [hd] at c2
  clear hd hd' ht
  go_enter Tryz.func61, Tryz.ntmps61
  go_wp2_with (fail)
  refine HW.out.mono ?_
  rintro e w1 ⟨rfl, hr⟩
  have HR := Lib.hid hr
  clear hr
  go_wp2_with (fail)
  go_ret
  exact ⟨rfl, fun h => absurd h HN.out, fun _ => HR.out⟩

theorem cell_ne_map {w : World} {R : Value → Option (DataW Value × List MemPlace)} {k : TypeId} {mb n : Nat} {D : DataW Value} (h : w.ownsMap Tryz.prog k R mb n D) {B o : Nat} {v : Value} (hc : w.cell? ⟨B, o, none⟩ = some v) : B ≠ mb := by
 rintro rfl
 obtain ⟨es, clock, hm, _⟩ := h
 simp [World.cell?, hm] at hc
theorem step_store {ops : Array Oper} {o : Oper} {a : Act} {K : Act → World → Prop} {Q : Exit → Act → World → Prop} {E : Prop} {x : World} (hgd : o.guard = none) (m y v : Operand)
  (ho : o.op = Op.mapUpdate 111 m y v) {mb n : Nat} {D : DataW Value} {s : ByteArray} {val : Value} (hm : a.eval m = .map (some mb)) (hy : a.eval y = .string s) (hv : a.eval v = val)
  (hown : x.ownsMap Tryz.prog 9 RV mb n D) (hn : n ≤ 1000000) (hs : s.size ≤ maxLen)
  (h : ∀ w', w'.ownsMap Tryz.prog 9 RV mb (n + 1) (D.put (.string s.data.toList) (.held val)) → Keep [mb] x w' → K (a.put o.dst undef) w') : if Region.wanted o (yielded ops a.tmps) = true then o.wp Tryz.prog a x K Q else E := by
 rw [if_pos (by simp [Region.wanted, hgd])]
 obtain ⟨w', hrun, r1, r2⟩ := hown.store keyLaw Tryz.underlying111 (by unfold maxLen; omega) (key_is s hs) (rfl : RV val = some (.held val, []))
 unfold Oper.wp
 simp [execOp, ho, hm, hy, hv, hrun, Result.andThen]
 exact h w' r1 (keep_turned r2)
theorem step_del {ops : Array Oper} {o : Oper} {a : Act} {K : Act → World → Prop} {Q : Exit → Act → World → Prop} {E : Prop} {x : World} (hgd : o.guard = none) (m y : Operand)
  (ho : o.op = Op.call { callee := Callee.builtin Builtin.delete, args := #[m, y], argTypes := #[111, 9] }) {mb n : Nat} {D : DataW Value} {s : ByteArray} (hm : a.eval m = .map (some mb)) (hy : a.eval y = .string s)
  (hown : x.ownsMap Tryz.prog 9 RV mb n D) (hs : s.size ≤ maxLen)
  (h : ∀ w', w'.ownsMap Tryz.prog 9 RV mb n (D.del (.string s.data.toList)) → Keep [mb] x w' → K (a.put o.dst (.tuple #[])) w') : if Region.wanted o (yielded ops a.tmps) = true then o.wp Tryz.prog a x K Q else E := by
 rw [if_pos (by simp [Region.wanted, hgd])]
 obtain ⟨w', hrun, r1, r2⟩ := hown.drop keyLaw Tryz.underlying111 (key_is s hs) o.type
 unfold Oper.wp
 simp [execOp, ho, resolve, invoke, builtin, hm, hy, hrun, Result.andThen]
 exact h w' r1 (keep_turned r2)
def Chg (n₀ : Nat) (w x : World) (b : Nat) (M : RS) (mb : Nat) (t : Int) (V : List UInt8 → Value) (L L' : List FI) (G : List Nat) : Prop :=
 ∃ D' V', Hdr x b M (.map (some mb)) t ∧ FilesV n₀ x mb D' V' L' none ∧ Keep G w x ∧ ∀ z ∈ L', ∀ k, (V' z.name).ownBlock = some k → (∃ u ∈ L, (V u.name).ownBlock = some k) ∨ w.heap.size ≤ k
theorem Hdr.keep {w x : World} {b : Nat} {M : RS} {mv : Value} {t : Int} {G : List Nat} (h : Hdr w b M mv t) (hk : Keep G w x) (hb : b ∉ G) : Hdr x b M mv t := ⟨hk.at h.1 hb, h.2⟩
theorem Hdr.ne {w : World} {b : Nat} {M : RS} {mv : Value} {t : Int} {R : Value → Option (DataW Value × List MemPlace)} {k : TypeId} {mb n : Nat} {D : DataW Value} (h : Hdr w b M mv t) (ho : w.ownsMap Tryz.prog k R mb n D) : b ≠ mb := by
 rintro rfl
 obtain ⟨es, clock, hm, _⟩ := ho
 rw [h.1] at hm; cases hm
set_option maxHeartbeats 4000000 in
set_option maxRecDepth 20000 in
theorem flushcl_any (n₀ : Nat) (w : World) (b mb : Nat) (M : RS) (t : Int) (D : DataW Value) (V : List UInt8 → Value) (Bc Bf Bn : Nat) (s : ByteArray) (y : FI) (h : Hdr w b M (.map (some mb)) t) (hV : FilesV n₀ w mb D V M.L none) (hS : Srt M.L) (hL : M.L.length ≤ 1000)
  (hs : s.size ≤ maxLen) (hy : getF s.data.toList M.L = some y) {p : Option Addr} {n cap : Nat} (hp : V y.name = .slice p n cap) (hn : y.bytes.length = n)
  (e0 : w.cell? ⟨Bc, 0, none⟩ = some (.slice p n cap)) (e1 : w.cell? ⟨Bc, 1, none⟩ = some (.int .i64 y.safe)) (e2 : w.cell? ⟨Bf, 0, none⟩ = some (.pointer (some ⟨b, 0, none⟩))) (e3 : w.cell? ⟨Bn, 0, none⟩ = some (.string s)) :
  Calls Tryz.prog 120 #[.pointer (some ⟨Bc, 0, none⟩), .pointer (some ⟨Bf, 0, none⟩), .pointer (some ⟨Bn, 0, none⟩)] w fun e w' =>
   e = .returned (.tuple #[]) ∧ Chg n₀ w w' b M mb t V M.L (insS { y with safe := y.bytes.length } M.L) [mb] := by
 have e4 : w.cell? ⟨b, 1, none⟩ = some (.map (some mb)) := by simp [World.cell?, h.1]
 have hSK : ∀ G x z, Keep G x z → Bc ∉ G → Bf ∉ G → Bn ∉ G → b ∉ G →
   (x.cell? ⟨Bc, 0, none⟩ = some (.slice p n cap) ∧ x.cell? ⟨Bc, 1, none⟩ = some (.int .i64 y.safe) ∧ x.cell? ⟨Bf, 0, none⟩ = some (.pointer (some ⟨b, 0, none⟩)) ∧ x.cell? ⟨Bn, 0, none⟩ = some (.string s) ∧ x.cell? ⟨b, 1, none⟩ = some (.map (some mb))) →
   (z.cell? ⟨Bc, 0, none⟩ = some (.slice p n cap) ∧ z.cell? ⟨Bc, 1, none⟩ = some (.int .i64 y.safe) ∧ z.cell? ⟨Bf, 0, none⟩ = some (.pointer (some ⟨b, 0, none⟩)) ∧ z.cell? ⟨Bn, 0, none⟩ = some (.string s) ∧ z.cell? ⟨b, 1, none⟩ = some (.map (some mb))) :=
  fun G x z hk h1 h2 h3 h4 hc => ⟨hk.cell hc.1 h1, hk.cell hc.2.1 h1, hk.cell hc.2.2.1 h2, hk.cell hc.2.2.2.1 h3, hk.cell hc.2.2.2.2 h4⟩
 have HSK := Lib.hid hSK
 have N1 := cell_ne_map hV.own e0
 have N2 := cell_ne_map hV.own e2
 have N3 := cell_ne_map hV.own e3
 have N4 := h.ne hV.own
 have HV := Lib.hid hV
 have HH := Lib.hid h
 have HS := Lib.hid hS
 have HY := Lib.hid hy
 have HP := Lib.hid hp
 have HN := Lib.hid hn
 clear hSK hV h hS hy hp hn
 go_enter Tryz.func120, Tryz.ntmps120
 go_wp2_with (fail)
 refine wp_region_held_drew (S := fun z => (z.cell? ⟨Bc, 0, none⟩ = some (.slice p n cap) ∧ z.cell? ⟨Bc, 1, none⟩ = some (.int .i64 y.safe) ∧ z.cell? ⟨Bf, 0, none⟩ = some (.pointer (some ⟨b, 0, none⟩)) ∧ z.cell? ⟨Bn, 0, none⟩ = some (.string s) ∧ z.cell? ⟨b, 1, none⟩ = some (.map (some mb)))) (by kernel_rfl) ⟨e0, e1, e2, e3, e4⟩ (fun hHeld => ?_)
 refine tq ⟨some 3, .load 55 (.tmp 1), 55, "file.go:75", #[], none⟩ ?_ 0 rfl ?_ ?_;rotate_left;·(intros;go_simp<;>with_reducible rfl)
 try simp only[Act.put,sqA,sqB,sqC]
 refine tq ⟨some 4, .nilCheck (.tmp 3), 0, "file.go:75", #[⟨0, .data⟩], none⟩ ?_ 1 rfl ?_ ?_;rotate_left;·(intros;go_simp<;>with_reducible rfl)
 try simp only[Act.put,sqA,sqB,sqC]
 refine tq ⟨some 5, .fieldAddr 113 (.tmp 4) 1, 0, "file.go:75", #[⟨1, .data⟩], none⟩ ?_ 2 rfl ?_ ?_;rotate_left;·(intros;go_simp<;>with_reducible rfl)
 try simp only[Act.put,sqA,sqB,sqC]
 refine tq ⟨some 6, .load 111 (.tmp 5), 111, "file.go:75", #[⟨2, .data⟩], none⟩ ?_ 3 rfl ?_ ?_;rotate_left;·(intros;go_simp<;>with_reducible rfl)
 try simp only[Act.put,sqA,sqB,sqC]
 refine tq ⟨some 7, .load 9 (.tmp 2), 9, "file.go:75", #[], none⟩ ?_ 4 rfl ?_ ?_;rotate_left;·(intros;go_simp<;>with_reducible rfl)
 try simp only[Act.put,sqA,sqB,sqC]
 refine tq ⟨some 8, .load 116 (.tmp 0), 116, "file.go:75", #[], none⟩ ?_ 5 rfl ?_ ?_;rotate_left;·(intros;go_simp<;>with_reducible rfl)
 try simp only[Act.put,sqA,sqB,sqC]
 refine wpAnyH_ready (rs := [6]) (by kernel_rfl) (by simp) ?_
 refine ar1 ⟨some 9, .call ⟨.value (.func 92), #[.tmp 8], #[116]⟩, 116, "file.go:75", #[⟨5, .data⟩], none⟩ rfl (fun K hK => ?_)
 go_simp
 refine (saved_any _ p n cap y.safe).mono ?_
 rintro e w2 ⟨rfl, hb2⟩
 have D1 := Lib.hid (((Bel.refl w).drew).trans hb2)
 have S2 := HSK.out [] _ _ (Keep.of_bel hb2 []) (by simp) (by simp) (by simp) (by simp) hHeld
 clear hb2
 dsimp only
 refine hK.out _ _ S2 (fun hHeld2 => ?_)
 clear hK K
 try simp only[Act.put,sqA,sqB,sqC]
 refine wpAnyH_ready (rs := [7]) (by kernel_rfl) (by simp) ?_
 refine ar1 ⟨none, .mapUpdate 111 (.tmp 6) (.tmp 7) (.tmp 9), 0, "file.go:75", #[⟨3, .data⟩, ⟨4, .data⟩, ⟨6, .data⟩, ⟨6, .chain⟩, ⟨0, .phase⟩, ⟨1, .phase⟩, ⟨2, .phase⟩, ⟨3, .phase⟩, ⟨4, .phase⟩, ⟨5, .phase⟩, ⟨6, .phase⟩], none⟩ rfl (fun K hK => ?_)
 refine step_store (mb := mb) (s := s) (val := .agg #[.slice p n cap, .int .i64 n]) rfl (.tmp 6) (.tmp 7) (.tmp 9) rfl rfl rfl rfl (HV.out.bel D1.out).own (by omega) hs ?_
 intro w3 ho hk
 refine hK.out _ _ (HSK.out [mb] _ _ hk (by simpa using N1) (by simpa using N2) (by simpa using N3) (by simpa using N4) S2) (fun hHeld3 => ?_)
 clear hK K
 try simp only[Act.put,sqA,sqB,sqC]
 refine wpAnyH_done (by kernel_rfl) ?_ _
 have HO := Lib.hid ho
 have HK := Lib.hid hk
 clear ho hk hHeld hHeld2 hHeld3 S2
 go_wp2_with (fail)
 go_end0
 have hym := getF_mem HY.out
 have hnm := getF_name HY.out
 have hv := (HV.out.bel D1.out).val y hym (by simp)
 have hval := hv.keep HK.out (fun k hk1 hk2 => by
  rw [List.mem_singleton] at hk2
  subst hk2
  exact (HV.out.bel D1.out).ne_row hv hk1)
 have hput := FilesV.put (y := { y with safe := y.bytes.length }) (v' := V y.name) HS.out ((HV.out.bel D1.out).weak y.name) (x := w3) (n := M.L.length + 1) (by
   have := HO.out
   rw [← hnm] at this
   simp only [conV, HP.out, HN.out]
   exact this) HK.out hval (fun z hz hne k hk => (HV.out.apart y hym z hz (fun e => hne e.symm) k hk))
 refine ⟨rfl, _, _, (HH.out.keep (Keep.of_bel D1.out []) (by simp)).keep HK.out (by simpa using N4), hput, (Keep.of_bel D1.out _).trans HK.out (fun x hx => Or.inl hx), fun z hz k hk => Or.inl ?_⟩
 rcases mem_ins hz with rfl | hz
 ·simp only [if_true] at hk
  exact ⟨y, hym, hk⟩
 ·by_cases he : z.name = y.name
  ·simp only [he, if_true] at hk
   exact ⟨y, hym, hk⟩
  ·simp only [he, if_false] at hk
   exact ⟨z, hz, hk⟩

theorem slice_block (p : Option Addr) (n m cap : Nat) : (Value.slice p n cap).ownBlock = (Value.slice p m cap).ownBlock := by cases p <;> rfl
theorem own_shape {B : Nat} {w : World} {p : Option Addr} {n cap : Nat} {l : List UInt8} (h : Own B w (.slice p n cap) l) : n ≤ cap ∧ cap ≤ maxLen ∧ (∀ a, p = some a → a = ⟨a.block, 0, none⟩) ∧ (p = none → n = 0 ∧ cap = 0) := by
 rcases h.2 with ⟨h1, h0⟩ | ⟨g, cap', cur, h1, _, _, hc, hx, _⟩
 ·simp only [Value.slice.injEq] at h1
  obtain ⟨rfl, rfl, rfl⟩ := h1
  exact ⟨Nat.le_refl _, by unfold maxLen; omega, by simp, fun _ => ⟨rfl, rfl⟩⟩
 ·simp only [Value.slice.injEq] at h1
  obtain ⟨rfl, rfl, rfl⟩ := h1
  exact ⟨hc, hx, by simp, by simp⟩

set_option maxHeartbeats 4000000 in
set_option maxRecDepth 20000 in
theorem cutcl_any (n₀ : Nat) (w : World) (b mb : Nat) (M : RS) (t : Int) (D : DataW Value) (V : List UInt8 → Value) (Bc Bi Bf Bn : Nat) (s : ByteArray) (y : FI) (h : Hdr w b M (.map (some mb)) t) (hV : FilesV n₀ w mb D V M.L none) (hS : Srt M.L) (hL : M.L.length ≤ 1000)
  (hs : s.size ≤ maxLen) (hy : getF s.data.toList M.L = some y) {p : Option Addr} {n cap : Nat} (hp : V y.name = .slice p n cap) (hn : y.bytes.length = n) (m : Nat) (hm : m ≤ n) (e5 : w.cell? ⟨Bi, 0, none⟩ = some (.int .i64 m))
  (e0 : w.cell? ⟨Bc, 0, none⟩ = some (.slice p n cap)) (e1 : w.cell? ⟨Bc, 1, none⟩ = some (.int .i64 y.safe)) (e2 : w.cell? ⟨Bf, 0, none⟩ = some (.pointer (some ⟨b, 0, none⟩))) (e3 : w.cell? ⟨Bn, 0, none⟩ = some (.string s)) :
  Calls Tryz.prog 177 #[.pointer (some ⟨Bc, 0, none⟩), .pointer (some ⟨Bi, 0, none⟩), .pointer (some ⟨Bf, 0, none⟩), .pointer (some ⟨Bn, 0, none⟩)] w fun e w' =>
   e = .returned (.tuple #[]) ∧ Chg n₀ w w' b M mb t V M.L (insS { y with bytes := y.bytes.take m, safe := min y.safe m } M.L) [mb] := by
 have e4 : w.cell? ⟨b, 1, none⟩ = some (.map (some mb)) := by simp [World.cell?, h.1]
 have hSK : ∀ G x z, Keep G x z → Bc ∉ G → Bf ∉ G → Bn ∉ G → b ∉ G → Bi ∉ G →
   (x.cell? ⟨Bc, 0, none⟩ = some (.slice p n cap) ∧ x.cell? ⟨Bc, 1, none⟩ = some (.int .i64 y.safe) ∧ x.cell? ⟨Bf, 0, none⟩ = some (.pointer (some ⟨b, 0, none⟩)) ∧ x.cell? ⟨Bn, 0, none⟩ = some (.string s) ∧ x.cell? ⟨b, 1, none⟩ = some (.map (some mb)) ∧ x.cell? ⟨Bi, 0, none⟩ = some (.int .i64 m)) →
   (z.cell? ⟨Bc, 0, none⟩ = some (.slice p n cap) ∧ z.cell? ⟨Bc, 1, none⟩ = some (.int .i64 y.safe) ∧ z.cell? ⟨Bf, 0, none⟩ = some (.pointer (some ⟨b, 0, none⟩)) ∧ z.cell? ⟨Bn, 0, none⟩ = some (.string s) ∧ z.cell? ⟨b, 1, none⟩ = some (.map (some mb)) ∧ z.cell? ⟨Bi, 0, none⟩ = some (.int .i64 m)) :=
  fun G x z hk h1 h2 h3 h4 h5 hc => ⟨hk.cell hc.1 h1, hk.cell hc.2.1 h1, hk.cell hc.2.2.1 h2, hk.cell hc.2.2.2.1 h3, hk.cell hc.2.2.2.2.1 h4, hk.cell hc.2.2.2.2.2 h5⟩
 have HSK := Lib.hid hSK
 have N1 := cell_ne_map hV.own e0
 have N2 := cell_ne_map hV.own e2
 have N3 := cell_ne_map hV.own e3
 have N4 := h.ne hV.own
 have N5 := cell_ne_map hV.own e5
 obtain ⟨hp1, hp2, hp3, hp4⟩ : n ≤ cap ∧ cap ≤ maxLen ∧ (∀ a, p = some a → a = ⟨a.block, 0, none⟩) ∧ (p = none → n = 0 ∧ cap = 0) := own_shape (hp ▸ hV.val y (getF_mem hy) (by simp))
 have HF := Lib.hid (fun x => first_any x p n cap y.safe m hm hp1 hp2 hp3 hp4)
 clear hp1 hp2 hp3 hp4
 have HV := Lib.hid hV
 have HH := Lib.hid h
 have HS := Lib.hid hS
 have HY := Lib.hid hy
 have HP := Lib.hid hp
 have HN := Lib.hid hn
 clear hSK hV h hS hy hp hn
 go_enter Tryz.func177, Tryz.ntmps177
 go_wp2_with (fail)
 refine wp_region_held_drew (S := fun z => (z.cell? ⟨Bc, 0, none⟩ = some (.slice p n cap) ∧ z.cell? ⟨Bc, 1, none⟩ = some (.int .i64 y.safe) ∧ z.cell? ⟨Bf, 0, none⟩ = some (.pointer (some ⟨b, 0, none⟩)) ∧ z.cell? ⟨Bn, 0, none⟩ = some (.string s) ∧ z.cell? ⟨b, 1, none⟩ = some (.map (some mb)) ∧ z.cell? ⟨Bi, 0, none⟩ = some (.int .i64 m))) (by kernel_rfl) ⟨e0, e1, e2, e3, e4, e5⟩ (fun hHeld => ?_)
 refine tq ⟨some 4, .load 55 (.tmp 2), 55, "file.go:86", #[], none⟩ ?_ 0 rfl ?_ ?_;rotate_left;·(intros;go_simp<;>with_reducible rfl)
 try simp only[Act.put,sqA,sqB,sqC]
 refine tq ⟨some 5, .nilCheck (.tmp 4), 0, "file.go:86", #[⟨0, .data⟩], none⟩ ?_ 1 rfl ?_ ?_;rotate_left;·(intros;go_simp<;>with_reducible rfl)
 try simp only[Act.put,sqA,sqB,sqC]
 refine tq ⟨some 6, .fieldAddr 113 (.tmp 5) 1, 0, "file.go:86", #[⟨1, .data⟩], none⟩ ?_ 2 rfl ?_ ?_;rotate_left;·(intros;go_simp<;>with_reducible rfl)
 try simp only[Act.put,sqA,sqB,sqC]
 refine tq ⟨some 7, .load 111 (.tmp 6), 111, "file.go:86", #[⟨2, .data⟩], none⟩ ?_ 3 rfl ?_ ?_;rotate_left;·(intros;go_simp<;>with_reducible rfl)
 try simp only[Act.put,sqA,sqB,sqC]
 refine tq ⟨some 8, .load 9 (.tmp 3), 9, "file.go:86", #[], none⟩ ?_ 4 rfl ?_ ?_;rotate_left;·(intros;go_simp<;>with_reducible rfl)
 try simp only[Act.put,sqA,sqB,sqC]
 refine tq ⟨some 9, .load 116 (.tmp 0), 116, "file.go:86", #[], none⟩ ?_ 5 rfl ?_ ?_;rotate_left;·(intros;go_simp<;>with_reducible rfl)
 try simp only[Act.put,sqA,sqB,sqC]
 refine tq ⟨some 10, .load 3 (.tmp 1), 3, "file.go:86", #[], none⟩ ?_ 6 rfl ?_ ?_;rotate_left;·(intros;go_simp<;>with_reducible rfl)
 try simp only[Act.put,sqA,sqB,sqC]
 refine wpAnyH_ready (rs := [7]) (by kernel_rfl) (by simp) ?_
 refine ar1 ⟨some 11, .call ⟨.value (.func 91), #[.tmp 9, .tmp 10], #[116, 3]⟩, 116, "file.go:86", #[⟨5, .data⟩, ⟨6, .data⟩], none⟩ rfl (fun K hK => ?_)
 go_simp
 refine (HF.out _).mono ?_
 rintro e w2 ⟨rfl, hb2⟩
 have D1 := Lib.hid (((Bel.refl w).drew).trans hb2)
 have S2 := HSK.out [] _ _ (Keep.of_bel hb2 []) (by simp) (by simp) (by simp) (by simp) (by simp) hHeld
 clear hb2
 dsimp only
 refine hK.out _ _ S2 (fun hHeld2 => ?_)
 clear hK K
 try simp only[Act.put,sqA,sqB,sqC]
 refine wpAnyH_ready (rs := [8]) (by kernel_rfl) (by simp) ?_
 refine ar1 ⟨none, .mapUpdate 111 (.tmp 7) (.tmp 8) (.tmp 11), 0, "file.go:86", #[⟨3, .data⟩, ⟨4, .data⟩, ⟨7, .data⟩, ⟨7, .chain⟩, ⟨0, .phase⟩, ⟨1, .phase⟩, ⟨2, .phase⟩, ⟨3, .phase⟩, ⟨4, .phase⟩, ⟨5, .phase⟩, ⟨6, .phase⟩, ⟨7, .phase⟩], none⟩ rfl (fun K hK => ?_)
 refine step_store (mb := mb) (s := s) (val := .agg #[.slice p m cap, .int .i64 (min y.safe m : Nat)]) rfl (.tmp 7) (.tmp 8) (.tmp 11) rfl rfl rfl rfl (HV.out.bel D1.out).own (by omega) hs ?_
 intro w3 ho hk
 refine hK.out _ _ (HSK.out [mb] _ _ hk (by simpa using N1) (by simpa using N2) (by simpa using N3) (by simpa using N4) (by simpa using N5) S2) (fun hHeld3 => ?_)
 clear hK K
 try simp only[Act.put,sqA,sqB,sqC]
 refine wpAnyH_done (by kernel_rfl) ?_ _
 have HO := Lib.hid ho
 have HK := Lib.hid hk
 clear ho hk hHeld hHeld2 hHeld3 S2
 go_wp2_with (fail)
 go_end0
 have hym := getF_mem HY.out
 have hnm := getF_name HY.out
 have hv := (HV.out.bel D1.out).val y hym (by simp)
 rw [HP.out] at hv
 have hval := (own_first hv m hm).keep HK.out (fun k hk1 hk2 => by
  rw [List.mem_singleton] at hk2
  subst hk2
  exact (HV.out.bel D1.out).ne_row (own_first hv m hm) hk1)
 have hput := FilesV.put (y := { y with bytes := y.bytes.take m, safe := min y.safe m }) (v' := .slice p m cap) HS.out ((HV.out.bel D1.out).weak y.name) (x := w3) (n := M.L.length + 1) (by
   have := HO.out
   rw [← hnm] at this
   exact this) HK.out hval (fun z hz hne k hk => (HV.out.apart y hym z hz (fun e => hne e.symm) k (by rw [HP.out, slice_block p n m cap]; exact hk)))
 refine ⟨rfl, _, _, (HH.out.keep (Keep.of_bel D1.out []) (by simp)).keep HK.out (by simpa using N4), hput, (Keep.of_bel D1.out _).trans HK.out (fun x hx => Or.inl hx), fun z hz k hk => Or.inl ?_⟩
 rcases mem_ins hz with rfl | hz
 ·simp only [if_true] at hk
  exact ⟨y, hym, by rw [HP.out, slice_block p n m cap]; exact hk⟩
 ·by_cases he : z.name = y.name
  ·simp only [he, if_true] at hk
   exact ⟨y, hym, by rw [HP.out, slice_block p n m cap]; exact hk⟩
  ·simp only [he, if_false] at hk
   exact ⟨z, hz, hk⟩
set_option maxHeartbeats 4000000 in
set_option maxRecDepth 20000 in
theorem dropcl_any (n₀ : Nat) (w : World) (b mb : Nat) (M : RS) (t : Int) (D : DataW Value) (V : List UInt8 → Value) (Bf Bn : Nat) (s : ByteArray) (h : Hdr w b M (.map (some mb)) t) (hV : FilesV n₀ w mb D V M.L none) (hS : Srt M.L)
  (hs : s.size ≤ maxLen) (e2 : w.cell? ⟨Bf, 0, none⟩ = some (.pointer (some ⟨b, 0, none⟩))) (e3 : w.cell? ⟨Bn, 0, none⟩ = some (.string s)) :
  Calls Tryz.prog 123 #[.pointer (some ⟨Bf, 0, none⟩), .pointer (some ⟨Bn, 0, none⟩)] w fun e w' =>
   e = .returned (.tuple #[]) ∧ Chg n₀ w w' b M mb t V M.L (outS s.data.toList M.L) [mb] := by
 have e4 : w.cell? ⟨b, 1, none⟩ = some (.map (some mb)) := by simp [World.cell?, h.1]
 have N2 := cell_ne_map hV.own e2
 have N3 := cell_ne_map hV.own e3
 have N4 := h.ne hV.own
 have HV := Lib.hid hV
 have HH := Lib.hid h
 have HS := Lib.hid hS
 clear hV h hS
 go_enter Tryz.func123, Tryz.ntmps123
 go_wp2_with (fail)
 refine wp_region_held_drew (S := fun z => (z.cell? ⟨Bf, 0, none⟩ = some (.pointer (some ⟨b, 0, none⟩)) ∧ z.cell? ⟨Bn, 0, none⟩ = some (.string s) ∧ z.cell? ⟨b, 1, none⟩ = some (.map (some mb)))) (by kernel_rfl) ⟨e2, e3, e4⟩ (fun hHeld => ?_)
 refine tq ⟨some 2, .load 55 (.tmp 0), 55, "file.go:108", #[], none⟩ ?_ 0 rfl ?_ ?_;rotate_left;·(intros;go_simp<;>with_reducible rfl)
 try simp only[Act.put,sqA,sqB,sqC]
 refine tq ⟨some 3, .nilCheck (.tmp 2), 0, "file.go:108", #[⟨0, .data⟩], none⟩ ?_ 1 rfl ?_ ?_;rotate_left;·(intros;go_simp<;>with_reducible rfl)
 try simp only[Act.put,sqA,sqB,sqC]
 refine tq ⟨some 4, .fieldAddr 113 (.tmp 3) 1, 0, "file.go:108", #[⟨1, .data⟩], none⟩ ?_ 2 rfl ?_ ?_;rotate_left;·(intros;go_simp<;>with_reducible rfl)
 try simp only[Act.put,sqA,sqB,sqC]
 refine tq ⟨some 5, .load 111 (.tmp 4), 111, "file.go:108", #[⟨2, .data⟩], none⟩ ?_ 3 rfl ?_ ?_;rotate_left;·(intros;go_simp<;>with_reducible rfl)
 try simp only[Act.put,sqA,sqB,sqC]
 refine tq ⟨some 6, .load 9 (.tmp 1), 9, "file.go:108", #[], none⟩ ?_ 4 rfl ?_ ?_;rotate_left;·(intros;go_simp<;>with_reducible rfl)
 try simp only[Act.put,sqA,sqB,sqC]
 refine wpAnyH_ready (rs := [5]) (by kernel_rfl) (by simp) ?_
 refine ar1 ⟨none, .call ⟨.builtin .delete, #[.tmp 5, .tmp 6], #[111, 9]⟩, 0, "file.go:108", #[⟨3, .data⟩, ⟨4, .data⟩], none⟩ rfl (fun K hK => ?_)
 refine step_del (mb := mb) (s := s) rfl (.tmp 5) (.tmp 6) rfl rfl rfl (HV.out.bel (Bel.refl w).drew).own hs ?_
 intro w3 ho hk
 refine hK.out _ _ ⟨hk.cell hHeld.1 (by simpa using N2), hk.cell hHeld.2.1 (by simpa using N3), hk.cell hHeld.2.2 (by simpa using N4)⟩ (fun hHeld3 => ?_)
 clear hK K
 try simp only[Act.put,sqA,sqB,sqC]
 refine wpAnyH_done (by kernel_rfl) ?_ _
 have HO := Lib.hid ho
 have HK := Lib.hid hk
 clear ho hk hHeld hHeld3
 go_wp2_with (fail)
 go_end0
 have hdel := FilesV.del HS.out (HV.out.bel (Bel.refl w).drew) HO.out HK.out
 exact ⟨rfl, _, _, (HH.out.keep (Keep.of_bel (Bel.refl w).drew []) (by simp)).keep HK.out (by simpa using N4), hdel, (Keep.of_bel (Bel.refl w).drew _).trans HK.out (fun x hx => Or.inl hx), fun z hz k hk => Or.inl ⟨z, mem_out hz, hk⟩⟩


theorem step_look {ops : Array Oper} {o : Oper} {a : Act} {K : Act → World → Prop} {Q : Exit → Act → World → Prop} {E : Prop} {x : World} {c : Bool} (hgd : o.guard = none) (m y : Operand)
  (ho : o.op = Op.lookup 111 m y c) {mv kv r : Value} (hm : a.eval m = mv) (hy : a.eval y = kv) (hrun : (Instr.lookup 111 mv kv c).run Tryz.prog x = .ok r x)
  (h : K (a.put o.dst r) x) : if Region.wanted o (yielded ops a.tmps) = true then o.wp Tryz.prog a x K Q else E := by
 rw [if_pos (by simp [Region.wanted, hgd])]
 unfold Oper.wp
 simp [execOp, ho, hm, hy, hrun, Result.andThen]
 exact h
theorem Hdr.ne_row {w : World} {b : Nat} {M : RS} {mv : Value} {t : Int} (h : Hdr w b M mv t) {n₀ : Nat} {v : Value} {l : List UInt8} (ho : Own n₀ w v l) : b ∉ v.ownBlock.toList := by
 intro hk
 rw [Option.mem_toList] at hk
 rcases ho.2 with ⟨rfl, _⟩ | ⟨g, cap, cur, rfl, _, hgb, _⟩
 ·simp [Value.ownBlock] at hk
 ·obtain rfl : g = b := by simpa [Value.ownBlock] using hk
  rw [h.1] at hgb
  simp at hgb
def addF (nm s : List UInt8) (L : List FI) : FI := match getF nm L with
 | some y => { y with bytes := y.bytes ++ s }
 | none => ⟨nm, s, 0⟩
theorem addF_name (nm s : List UInt8) (L : List FI) : (addF nm s L).name = nm := by
 unfold addF
 cases hy : getF nm L with
 | none => rfl
 | some y => exact getF_name (x := y) hy
theorem map_eq_nil (mb : Nat) (w : World) : (binOp .eql 111 (.map (some mb)) (.map none)).run Tryz.prog w = .ok (.bool false) w := by kernel_rfl
theorem nil_eq_nil (w : World) : (binOp .eql 111 (.map none) (.map none)).run Tryz.prog w = .ok (.bool true) w := by kernel_rfl
theorem extended_nil (B : Nat) (w : World) (u : ByteArray) (hu : u.size ≤ 1000000) (hB : B ≤ w.heap.size) :
  Calls Tryz.prog 63 #[.agg #[.slice none 0 0, .int .i64 0], .string u] w fun e w' => ∃ v', e = .returned (.agg #[v', .int .i64 0]) ∧ Own B w' v' u.data.toList ∧ Keep [] w w' ∧ (∀ k, v'.ownBlock = some k → w.heap.size ≤ k) := by
 refine (extended_any B w (.slice none 0 0) [] 0 u (Own.nil _ _) (by simp; omega) hB).mono ?_
 rintro e w' ⟨v', rfl, h1, h2, h3⟩
 exact ⟨v', rfl, by simpa using h1, h2, fun k hk => (h3 k hk).resolve_left (by simp [Value.ownBlock])⟩
def Added (n₀ : Nat) (w x : World) (b : Nat) (M : RS) (t : Int) (L' : List FI) (F : List Nat) : Prop :=
 ∃ mb D' V', Hdr x b M (.map (some mb)) t ∧ FilesV n₀ x mb D' V' L' none ∧ Keep F w x ∧ (mb ∈ F ∨ w.heap.size ≤ mb) ∧ ∀ z ∈ L', ∀ k, (V' z.name).ownBlock = some k → k ∈ F ∨ w.heap.size ≤ k

set_option maxHeartbeats 4000000 in
set_option maxRecDepth 20000 in
theorem addcl_some (n₀ : Nat) (w : World) (b : Nat) (M : RS) (t : Int) (F : List Nat) (mb : Nat) (D : DataW Value) (V : List UInt8 → Value) (Bf Bn Bs : Nat) (s u : ByteArray) (h : Hdr w b M (.map (some mb)) t) (hV : FilesV n₀ w mb D V M.L none) (hmF : mb ∈ F) (hvF : ∀ z ∈ M.L, ∀ k, (V z.name).ownBlock = some k → k ∈ F) (hS : Srt M.L) (hL : M.L.length ≤ 1000) (hbF : b ∈ F) (hn0 : n₀ ≤ w.heap.size)
  (hs : s.size ≤ maxLen) (hu : u.size ≤ 1000000) (y : FI) (hy : getF s.data.toList M.L = some y) (hB : y.bytes.length ≤ 1000000000)
  (e2 : w.cell? ⟨Bf, 0, none⟩ = some (.pointer (some ⟨b, 0, none⟩))) (e3 : w.cell? ⟨Bn, 0, none⟩ = some (.string s)) (e5 : w.cell? ⟨Bs, 0, none⟩ = some (.string u)) (nf : Bf ∉ F ∧ Bn ∉ F ∧ Bs ∉ F) :
  Calls Tryz.prog 62 #[.pointer (some ⟨Bf, 0, none⟩), .pointer (some ⟨Bn, 0, none⟩), .pointer (some ⟨Bs, 0, none⟩)] w fun e w' =>
   e = .returned (.tuple #[]) ∧ Added n₀ w w' b M t (insS (addF s.data.toList u.data.toList M.L) M.L) F := by
 have hv0 := hV.val y (getF_mem hy) (by simp)
 obtain ⟨p, cap, hp, -⟩ := own_len hv0
 have hrow := h.ne_row hv0
 have hrF : ∀ k ∈ (V y.name).ownBlock.toList, k ∈ F := fun k hk => hvF y (getF_mem hy) k (by rwa [Option.mem_toList] at hk)
 rw [hp] at hv0 hrow hrF
 have e4 : w.cell? ⟨b, 1, none⟩ = some (.map (some mb)) := by simp [World.cell?, h.1]
 have hSK : ∀ G x z, Keep G x z → Bf ∉ G → Bn ∉ G → Bs ∉ G → b ∉ G → (x.cell? ⟨Bf, 0, none⟩ = some (.pointer (some ⟨b, 0, none⟩)) ∧ x.cell? ⟨Bn, 0, none⟩ = some (.string s) ∧ x.cell? ⟨Bs, 0, none⟩ = some (.string u) ∧ x.cell? ⟨b, 1, none⟩ = some (.map (some mb))) → (z.cell? ⟨Bf, 0, none⟩ = some (.pointer (some ⟨b, 0, none⟩)) ∧ z.cell? ⟨Bn, 0, none⟩ = some (.string s) ∧ z.cell? ⟨Bs, 0, none⟩ = some (.string u) ∧ z.cell? ⟨b, 1, none⟩ = some (.map (some mb))) :=
  fun G x z hk h1 h2 h3 h4 hc => ⟨hk.cell hc.1 h1, hk.cell hc.2.1 h2, hk.cell hc.2.2.1 h3, hk.cell hc.2.2.2 h4⟩
 have HSK := Lib.hid hSK
 have N4 := h.ne hV.own
 have HV := Lib.hid hV
 have HH := Lib.hid h
 have HS := Lib.hid hS
 have HY := Lib.hid hy
 have HP := Lib.hid hp
 have HV0 := Lib.hid hv0
 have HRF := Lib.hid hrF
 have HMF := Lib.hid hmF
 have HVF := Lib.hid hvF
 have HRW := Lib.hid hrow
 have HLK := Lib.hid (fun x (hb : Bel w x) => run_look_some (hV.bel hb) s hs hy false)
 have hsn : s.data.toList = y.name := (getF_name hy).symm
 rw [hsn, hp] at HLK
 obtain ⟨nf1, nf2, nf3⟩ := nf
 have Q1 := Lib.hid (fun hm => nf1 (hrF Bf hm))
 have Q2 := Lib.hid (fun hm => nf2 (hrF Bn hm))
 have Q3 := Lib.hid (fun hm => nf3 (hrF Bs hm))
 have P1 : Bf ≠ mb := fun e => nf1 (e ▸ hmF)
 have P2 : Bn ≠ mb := fun e => nf2 (e ▸ hmF)
 have P3 : Bs ≠ mb := fun e => nf3 (e ▸ hmF)
 have HSN := Lib.hid hsn
 clear hSK hV h hS hy hp hv0 hrF hmF hvF hrow hsn nf1 nf2 nf3
 have hqn := map_eq_nil mb
 go_enter Tryz.func62, Tryz.ntmps62
 go_wp2_with (fail)
 refine wp_region_held_drew (S := fun z => (z.cell? ⟨Bf, 0, none⟩ = some (.pointer (some ⟨b, 0, none⟩)) ∧ z.cell? ⟨Bn, 0, none⟩ = some (.string s) ∧ z.cell? ⟨Bs, 0, none⟩ = some (.string u) ∧ z.cell? ⟨b, 1, none⟩ = some (.map (some mb)))) (by kernel_rfl) ⟨e2, e3, e5, e4⟩ (fun hHeld => ?_)
 refine tq ⟨some 12, .load 55 (.tmp 0), 55, "file.go:38", #[], none⟩ ?_ 0 rfl ?_ ?_;rotate_left;·(intros;go_simp<;>with_reducible rfl)
 try simp only[Act.put,sqA,sqB,sqC]
 refine tq ⟨some 13, .nilCheck (.tmp 12), 0, "file.go:38", #[⟨0, .data⟩], none⟩ ?_ 1 rfl ?_ ?_;rotate_left;·(intros;go_simp<;>with_reducible rfl)
 try simp only[Act.put,sqA,sqB,sqC]
 refine tq ⟨some 14, .fieldAddr 113 (.tmp 13) 1, 0, "file.go:38", #[⟨1, .data⟩], none⟩ ?_ 2 rfl ?_ ?_;rotate_left;·(intros;go_simp<;>with_reducible rfl)
 try simp only[Act.put,sqA,sqB,sqC]
 refine tq ⟨some 15, .load 111 (.tmp 14), 111, "file.go:38", #[⟨2, .data⟩], none⟩ ?_ 3 rfl ?_ ?_;rotate_left;·(intros;go_simp<;>with_reducible rfl)
 try simp only[Act.put,sqA,sqB,sqC]
 refine tq ⟨some 16, .load 9 (.tmp 1), 9, "file.go:38", #[], none⟩ ?_ 4 rfl ?_ ?_;rotate_left;·(intros;go_simp<;>with_reducible rfl)
 try simp only[Act.put,sqA,sqB,sqC]
 refine tq ⟨some 17, .load 55 (.tmp 0), 55, "file.go:38", #[], none⟩ ?_ 5 rfl ?_ ?_;rotate_left;·(intros;go_simp<;>with_reducible rfl)
 try simp only[Act.put,sqA,sqB,sqC]
 refine tq ⟨some 18, .nilCheck (.tmp 17), 0, "file.go:38", #[⟨5, .data⟩], none⟩ ?_ 6 rfl ?_ ?_;rotate_left;·(intros;go_simp<;>with_reducible rfl)
 try simp only[Act.put,sqA,sqB,sqC]
 refine tq ⟨some 19, .fieldAddr 113 (.tmp 18) 1, 0, "file.go:38", #[⟨6, .data⟩], none⟩ ?_ 7 rfl ?_ ?_;rotate_left;·(intros;go_simp<;>with_reducible rfl)
 try simp only[Act.put,sqA,sqB,sqC]
 refine tq ⟨some 20, .load 111 (.tmp 19), 111, "file.go:38", #[⟨7, .data⟩], none⟩ ?_ 8 rfl ?_ ?_;rotate_left;·(intros;go_simp<;>with_reducible rfl)
 try simp only[Act.put,sqA,sqB,sqC]
 refine tq ⟨some 21, .load 9 (.tmp 1), 9, "file.go:38", #[], none⟩ ?_ 9 rfl ?_ ?_;rotate_left;·(intros;go_simp<;>with_reducible rfl)
 try simp only[Act.put,sqA,sqB,sqC]
 refine tq ⟨some 23, .load 9 (.tmp 2), 9, "file.go:38", #[], none⟩ ?_ 11 rfl ?_ ?_;rotate_left;·(intros;go_simp<;>with_reducible rfl)
 try simp only[Act.put,sqA,sqB,sqC]
 refine wpAnyH_ready (rs := [10]) (by kernel_rfl) (by simp) ?_
 refine ar1 ⟨some 22, .lookup 111 (.tmp 20) (.tmp 21) false, 116, "file.go:38", #[⟨8, .data⟩, ⟨9, .data⟩], none⟩ rfl (fun K hK => ?_)
 refine step_look (mv := .map (some mb)) (kv := .string s) (r := .agg #[.slice p y.bytes.length cap, .int .i64 y.safe]) rfl (.tmp 20) (.tmp 21) rfl rfl rfl (HLK.out _ (Bel.refl w).drew) ?_
 refine hK.out _ _ hHeld (fun hHeld1 => ?_)
 clear hK K
 try simp only[Act.put,sqA,sqB,sqC]
 refine wpAnyH_ready (rs := [12]) (by kernel_rfl) (by simp) ?_
 refine ar1 ⟨some 24, .call ⟨.value (.func 63), #[.tmp 22, .tmp 23], #[116, 9]⟩, 116, "file.go:38", #[⟨10, .data⟩, ⟨11, .data⟩], none⟩ rfl (fun K hK => ?_)
 go_simp
 refine (extended_any n₀ _ _ _ y.safe u (HV0.out.bel (Bel.refl w).drew) (by omega) hn0).mono ?_
 rintro e w2 ⟨v', rfl, hv1, hk1, hl1⟩
 have D1 := Lib.hid ((Keep.of_bel (Bel.refl w).drew _).trans hk1 (fun x hx => Or.inl hx))
 have S2 := HSK.out _ _ _ hk1 Q1.out Q2.out Q3.out HRW.out hHeld
 have HV1 := Lib.hid hv1
 have HL1 := Lib.hid hl1
 have HV2 := Lib.hid (show FilesV n₀ w2 mb D V M.L (some y.name) from HV.out.but (getF_mem HY.out) (by rw [HP.out]; exact D1.out))
 clear hk1 hv1 hl1
 dsimp only
 refine hK.out _ _ S2 (fun hHeld2 => ?_)
 clear hK K
 try simp only[Act.put,sqA,sqB,sqC]
 refine wpAnyH_ready (rs := [13]) (by kernel_rfl) (by simp) ?_
 refine ar1 ⟨none, .mapUpdate 111 (.tmp 15) (.tmp 16) (.tmp 24), 0, "file.go:38", #[⟨3, .data⟩, ⟨4, .data⟩, ⟨12, .data⟩, ⟨12, .chain⟩, ⟨0, .phase⟩, ⟨1, .phase⟩, ⟨2, .phase⟩, ⟨3, .phase⟩, ⟨4, .phase⟩, ⟨5, .phase⟩, ⟨6, .phase⟩, ⟨7, .phase⟩, ⟨8, .phase⟩, ⟨9, .phase⟩, ⟨10, .phase⟩, ⟨11, .phase⟩, ⟨12, .phase⟩], none⟩ rfl (fun K hK => ?_)
 refine step_store (mb := mb) (s := s) (val := .agg #[v', .int .i64 y.safe]) rfl (.tmp 15) (.tmp 16) (.tmp 24) rfl rfl rfl rfl HV2.out.own (by omega) hs ?_
 intro w3 ho hk
 refine hK.out _ _ (HSK.out [mb] _ _ hk (by simpa using P1) (by simpa using P2) (by simpa using P3) (by simpa using N4) S2) (fun hHeld3 => ?_)
 clear hK K
 try simp only[Act.put,sqA,sqB,sqC]
 refine wpAnyH_done (by kernel_rfl) ?_ _
 have HO := Lib.hid ho
 have HK := Lib.hid hk
 clear ho hk hHeld hHeld1 hHeld2 hHeld3 S2
 go_wp2_with (fail)
 go_end0
 have hym := getF_mem HY.out
 have hval := HV1.out.keep HK.out (fun k hk1 hk2 => by
  rw [List.mem_singleton] at hk2
  subst hk2
  exact HV2.out.ne_row HV1.out hk1)
 have hadd : addF s.data.toList u.data.toList M.L = { y with bytes := y.bytes ++ u.data.toList } := by unfold addF; rw [HY.out]
 have hput := FilesV.put (y := { y with bytes := y.bytes ++ u.data.toList }) (v' := v') HS.out HV2.out (x := w3) (n := M.L.length + 1) (by
   have := HO.out
   rw [HSN.out] at this
   exact this) HK.out hval (fun z hz hne k hk => by
   rcases HL1.out k hk with h1 | h1
   ·exact HV.out.apart y hym z hz (fun e => hne e.symm) k (by rw [HP.out]; exact h1)
   ·intro h2
    have := ((HV.out.val z hz (by simp)).lt k h2).2
    simp at h1
    omega)
 rw [hadd]
 have KK := (D1.out.mono HRF.out).trans (HK.out.mono (G := F) (fun x hx => by rw [List.mem_singleton] at hx; rw [hx]; exact HMF.out)) (fun x hx => Or.inl hx)
 refine ⟨rfl, mb, _, _, (HH.out.keep D1.out HRW.out).keep HK.out (by simpa using N4), hput, KK, Or.inl HMF.out, fun z hz k hk => ?_⟩
 by_cases he : z.name = y.name
 ·simp only [he, if_true] at hk
  rcases HL1.out k hk with h1 | h1
  ·exact Or.inl (HRF.out k (by rw [Option.mem_toList]; exact h1))
  ·exact Or.inr (by simpa using h1)
 ·simp only [he, if_false] at hk
  rcases mem_ins hz with rfl | hz
  ·exact absurd rfl he
  ·exact Or.inl (HVF.out z hz k hk)

set_option maxHeartbeats 4000000 in
set_option maxRecDepth 20000 in
theorem addcl_none (n₀ : Nat) (w : World) (b : Nat) (M : RS) (t : Int) (F : List Nat) (mb : Nat) (D : DataW Value) (V : List UInt8 → Value) (Bf Bn Bs : Nat) (s u : ByteArray) (h : Hdr w b M (.map (some mb)) t) (hV : FilesV n₀ w mb D V M.L none) (hmF : mb ∈ F) (hvF : ∀ z ∈ M.L, ∀ k, (V z.name).ownBlock = some k → k ∈ F) (hS : Srt M.L) (hL : M.L.length ≤ 1000) (hbF : b ∈ F) (hn0 : n₀ ≤ w.heap.size)
  (hs : s.size ≤ maxLen) (hu : u.size ≤ 1000000) (hy : getF s.data.toList M.L = none)
  (e2 : w.cell? ⟨Bf, 0, none⟩ = some (.pointer (some ⟨b, 0, none⟩))) (e3 : w.cell? ⟨Bn, 0, none⟩ = some (.string s)) (e5 : w.cell? ⟨Bs, 0, none⟩ = some (.string u)) (nf : Bf ∉ F ∧ Bn ∉ F ∧ Bs ∉ F) :
  Calls Tryz.prog 62 #[.pointer (some ⟨Bf, 0, none⟩), .pointer (some ⟨Bn, 0, none⟩), .pointer (some ⟨Bs, 0, none⟩)] w fun e w' =>
   e = .returned (.tuple #[]) ∧ Added n₀ w w' b M t (insS (addF s.data.toList u.data.toList M.L) M.L) F := by
 obtain ⟨X0, hX0⟩ : ∃ X0, X0 = w := ⟨_, rfl⟩
 have e4 : w.cell? ⟨b, 1, none⟩ = some (.map (some mb)) := by simp [World.cell?, h.1]
 have hSK : ∀ G x z, Keep G x z → Bf ∉ G → Bn ∉ G → Bs ∉ G → b ∉ G → (x.cell? ⟨Bf, 0, none⟩ = some (.pointer (some ⟨b, 0, none⟩)) ∧ x.cell? ⟨Bn, 0, none⟩ = some (.string s) ∧ x.cell? ⟨Bs, 0, none⟩ = some (.string u) ∧ x.cell? ⟨b, 1, none⟩ = some (.map (some mb))) → (z.cell? ⟨Bf, 0, none⟩ = some (.pointer (some ⟨b, 0, none⟩)) ∧ z.cell? ⟨Bn, 0, none⟩ = some (.string s) ∧ z.cell? ⟨Bs, 0, none⟩ = some (.string u) ∧ z.cell? ⟨b, 1, none⟩ = some (.map (some mb))) :=
  fun G x z hk h1 h2 h3 h4 hc => ⟨hk.cell hc.1 h1, hk.cell hc.2.1 h2, hk.cell hc.2.2.1 h3, hk.cell hc.2.2.2 h4⟩
 have HSK := Lib.hid hSK
 have N4 := h.ne hV.own
 have HV := Lib.hid hV
 have HH := Lib.hid h
 have HS := Lib.hid hS
 have HY := Lib.hid hy
 have HMB := Lib.hid (show mb ∈ F ∨ w.heap.size ≤ mb from Or.inl hmF)
 have HVF := Lib.hid (show ∀ z ∈ M.L, ∀ k, (V z.name).ownBlock = some k → k ∈ F ∨ w.heap.size ≤ k from fun z hz k hk => Or.inl (hvF z hz k hk))
 have HLK := Lib.hid (fun x (hb : Bel w x) => run_look_none (F := F) (Or.inr ⟨mb, D, V, rfl, hV.bel hb, hmF, hvF⟩) s hs hy false)
 have HKW := Lib.hid (Keep.refl F w)
 have HN0 := Lib.hid hn0
 obtain ⟨nf1, nf2, nf3⟩ := nf
 have P1 : Bf ≠ mb := fun e => nf1 (e ▸ hmF)
 have P2 : Bn ≠ mb := fun e => nf2 (e ▸ hmF)
 have P3 : Bs ≠ mb := fun e => nf3 (e ▸ hmF)
 have q2 := e2
 have q3 := e3
 have q5 := e5
 have q4 := e4
 unfold conZ at HLK
 subst X0
 clear hSK hV h hS hy hmF hvF nf1 nf2 nf3 e2 e3 e5 e4 hn0
 have hqn := map_eq_nil mb
 go_enter Tryz.func62, Tryz.ntmps62
 go_wp2_with (fail)
 refine wp_region_held_drew (S := fun z => (z.cell? ⟨Bf, 0, none⟩ = some (.pointer (some ⟨b, 0, none⟩)) ∧ z.cell? ⟨Bn, 0, none⟩ = some (.string s) ∧ z.cell? ⟨Bs, 0, none⟩ = some (.string u) ∧ z.cell? ⟨b, 1, none⟩ = some (.map (some mb)))) (by kernel_rfl) ⟨q2, q3, q5, q4⟩ (fun hHeld => ?_)
 refine tq ⟨some 12, .load 55 (.tmp 0), 55, "file.go:38", #[], none⟩ ?_ 0 rfl ?_ ?_;rotate_left;·(intros;go_simp<;>with_reducible rfl)
 try simp only[Act.put,sqA,sqB,sqC]
 refine tq ⟨some 13, .nilCheck (.tmp 12), 0, "file.go:38", #[⟨0, .data⟩], none⟩ ?_ 1 rfl ?_ ?_;rotate_left;·(intros;go_simp<;>with_reducible rfl)
 try simp only[Act.put,sqA,sqB,sqC]
 refine tq ⟨some 14, .fieldAddr 113 (.tmp 13) 1, 0, "file.go:38", #[⟨1, .data⟩], none⟩ ?_ 2 rfl ?_ ?_;rotate_left;·(intros;go_simp<;>with_reducible rfl)
 try simp only[Act.put,sqA,sqB,sqC]
 refine tq ⟨some 15, .load 111 (.tmp 14), 111, "file.go:38", #[⟨2, .data⟩], none⟩ ?_ 3 rfl ?_ ?_;rotate_left;·(intros;go_simp<;>with_reducible rfl)
 try simp only[Act.put,sqA,sqB,sqC]
 refine tq ⟨some 16, .load 9 (.tmp 1), 9, "file.go:38", #[], none⟩ ?_ 4 rfl ?_ ?_;rotate_left;·(intros;go_simp<;>with_reducible rfl)
 try simp only[Act.put,sqA,sqB,sqC]
 refine tq ⟨some 17, .load 55 (.tmp 0), 55, "file.go:38", #[], none⟩ ?_ 5 rfl ?_ ?_;rotate_left;·(intros;go_simp<;>with_reducible rfl)
 try simp only[Act.put,sqA,sqB,sqC]
 refine tq ⟨some 18, .nilCheck (.tmp 17), 0, "file.go:38", #[⟨5, .data⟩], none⟩ ?_ 6 rfl ?_ ?_;rotate_left;·(intros;go_simp<;>with_reducible rfl)
 try simp only[Act.put,sqA,sqB,sqC]
 refine tq ⟨some 19, .fieldAddr 113 (.tmp 18) 1, 0, "file.go:38", #[⟨6, .data⟩], none⟩ ?_ 7 rfl ?_ ?_;rotate_left;·(intros;go_simp<;>with_reducible rfl)
 try simp only[Act.put,sqA,sqB,sqC]
 refine tq ⟨some 20, .load 111 (.tmp 19), 111, "file.go:38", #[⟨7, .data⟩], none⟩ ?_ 8 rfl ?_ ?_;rotate_left;·(intros;go_simp<;>with_reducible rfl)
 try simp only[Act.put,sqA,sqB,sqC]
 refine tq ⟨some 21, .load 9 (.tmp 1), 9, "file.go:38", #[], none⟩ ?_ 9 rfl ?_ ?_;rotate_left;·(intros;go_simp<;>with_reducible rfl)
 try simp only[Act.put,sqA,sqB,sqC]
 refine tq ⟨some 23, .load 9 (.tmp 2), 9, "file.go:38", #[], none⟩ ?_ 11 rfl ?_ ?_;rotate_left;·(intros;go_simp<;>with_reducible rfl)
 try simp only[Act.put,sqA,sqB,sqC]
 refine wpAnyH_ready (rs := [10]) (by kernel_rfl) (by simp) ?_
 refine ar1 ⟨some 22, .lookup 111 (.tmp 20) (.tmp 21) false, 116, "file.go:38", #[⟨8, .data⟩, ⟨9, .data⟩], none⟩ rfl (fun K hK => ?_)
 refine step_look (mv := .map (some mb)) (kv := .string s) (r := .agg #[.slice none 0 0, .int .i64 0]) rfl (.tmp 20) (.tmp 21) rfl rfl rfl (HLK.out _ (Bel.refl _).drew) ?_
 refine hK.out _ _ hHeld (fun hHeld1 => ?_)
 clear hK K
 try simp only[Act.put,sqA,sqB,sqC]
 refine wpAnyH_ready (rs := [12]) (by kernel_rfl) (by simp) ?_
 refine ar1 ⟨some 24, .call ⟨.value (.func 63), #[.tmp 22, .tmp 23], #[116, 9]⟩, 116, "file.go:38", #[⟨10, .data⟩, ⟨11, .data⟩], none⟩ rfl (fun K hK => ?_)
 go_simp
 refine (extended_nil n₀ w.drew u hu HN0.out).mono ?_
 rintro e w2 ⟨v', rfl, hv1, hk1, hl1⟩
 have D1 := Lib.hid ((Keep.of_bel (Bel.refl w).drew []).trans hk1 (fun x hx => Or.inl hx))
 have S2 := HSK.out [] _ _ hk1 (by simp) (by simp) (by simp) (by simp) hHeld
 have HV1 := Lib.hid hv1
 have HL1 := Lib.hid hl1
 have HV2 := Lib.hid (show FilesV n₀ w2 mb D V M.L none from HV.out.keep D1.out (by simp) (fun _ _ _ _ _ => by simp))
 clear hk1 hv1 hl1
 dsimp only
 refine hK.out _ _ S2 (fun hHeld2 => ?_)
 clear hK K
 try simp only[Act.put,sqA,sqB,sqC]
 refine wpAnyH_ready (rs := [13]) (by kernel_rfl) (by simp) ?_
 refine ar1 ⟨none, .mapUpdate 111 (.tmp 15) (.tmp 16) (.tmp 24), 0, "file.go:38", #[⟨3, .data⟩, ⟨4, .data⟩, ⟨12, .data⟩, ⟨12, .chain⟩, ⟨0, .phase⟩, ⟨1, .phase⟩, ⟨2, .phase⟩, ⟨3, .phase⟩, ⟨4, .phase⟩, ⟨5, .phase⟩, ⟨6, .phase⟩, ⟨7, .phase⟩, ⟨8, .phase⟩, ⟨9, .phase⟩, ⟨10, .phase⟩, ⟨11, .phase⟩, ⟨12, .phase⟩], none⟩ rfl (fun K hK => ?_)
 refine step_store (mb := mb) (s := s) (val := .agg #[v', .int .i64 0]) rfl (.tmp 15) (.tmp 16) (.tmp 24) rfl rfl rfl rfl HV2.out.own (by omega) hs ?_
 intro w3 ho hk
 refine hK.out _ _ (HSK.out [mb] _ _ hk (by simpa using P1) (by simpa using P2) (by simpa using P3) (by simpa using N4) S2) (fun hHeld3 => ?_)
 clear hK K
 try simp only[Act.put,sqA,sqB,sqC]
 refine wpAnyH_done (by kernel_rfl) ?_ _
 have HO := Lib.hid ho
 have HK := Lib.hid hk
 clear ho hk hHeld hHeld1 hHeld2 hHeld3 S2
 go_wp2_with (fail)
 go_end0
 have hval := HV1.out.keep HK.out (fun k hk1 hk2 => by
  rw [List.mem_singleton] at hk2
  subst hk2
  exact HV2.out.ne_row HV1.out hk1)
 have hadd : addF s.data.toList u.data.toList M.L = ⟨s.data.toList, u.data.toList, 0⟩ := by unfold addF; rw [HY.out]
 have hput := FilesV.put (y := ⟨s.data.toList, u.data.toList, 0⟩) (v' := v') HS.out (HV2.out.weak s.data.toList) (x := w3) (n := M.L.length + 1) (by
   have := HO.out
   exact this) HK.out hval (fun z hz hne k hk => by
   have h1 := HL1.out k hk
   intro h2
   have := ((HV.out.val z hz (by simp)).lt k h2).2
   simp at h1
   omega)
 rw [hadd]
 have KK := ((HKW.out.trans (D1.out.mono (G := F) (fun x hx => by cases hx)) (fun x hx => Or.inl hx))).trans (HK.out.mono (G := mb :: F) (fun x hx => by rw [List.mem_singleton] at hx; rw [hx]; simp)) (fun x hx => by
  rcases List.mem_cons.1 hx with rfl | hx
  ·exact HMB.out
  ·exact Or.inl hx)
 refine ⟨rfl, mb, _, _, (HH.out.keep D1.out (by simp)).keep HK.out (by simpa using N4), hput, KK, HMB.out, fun z hz k hk => ?_⟩
 by_cases he : z.name = s.data.toList
 ·simp only [he, if_true] at hk
  exact Or.inr (Nat.le_trans HKW.out.size (by simpa using HL1.out k hk))
 ·simp only [he, if_false] at hk
  rcases mem_ins hz with rfl | hz
  ·exact absurd rfl he
  ·exact HVF.out z hz k hk

set_option maxHeartbeats 4000000 in
set_option maxRecDepth 20000 in
theorem addcl_nil (n₀ : Nat) (w : World) (b : Nat) (M : RS) (t : Int) (F : List Nat)  (Bf Bn Bs : Nat) (s u : ByteArray) (h : Hdr w b M (.map none) t) (hL0 : M.L = []) (hS : Srt M.L) (hL : M.L.length ≤ 1000) (hbF : b ∈ F) (hn0 : n₀ ≤ w.heap.size)
  (hs : s.size ≤ maxLen) (hu : u.size ≤ 1000000)
  (e2 : w.cell? ⟨Bf, 0, none⟩ = some (.pointer (some ⟨b, 0, none⟩))) (e3 : w.cell? ⟨Bn, 0, none⟩ = some (.string s)) (e5 : w.cell? ⟨Bs, 0, none⟩ = some (.string u)) (nf : Bf ∉ F ∧ Bn ∉ F ∧ Bs ∉ F) :
  Calls Tryz.prog 62 #[.pointer (some ⟨Bf, 0, none⟩), .pointer (some ⟨Bn, 0, none⟩), .pointer (some ⟨Bs, 0, none⟩)] w fun e w' =>
   e = .returned (.tuple #[]) ∧ Added n₀ w w' b M t (insS (addF s.data.toList u.data.toList M.L) M.L) F := by
 have e4 : w.cell? ⟨b, 1, none⟩ = some (.map none) := by simp [World.cell?, h.1]
 have f4 : w.frozen? ⟨b, 1, none⟩ = false := by simp [World.frozen?, h.1]
 obtain ⟨mb, hmb⟩ : ∃ mb, mb = w.heap.size := ⟨_, rfl⟩
 have hSK : ∀ G x z, Keep G x z → Bf ∉ G → Bn ∉ G → Bs ∉ G → b ∉ G → (x.cell? ⟨Bf, 0, none⟩ = some (.pointer (some ⟨b, 0, none⟩)) ∧ x.cell? ⟨Bn, 0, none⟩ = some (.string s) ∧ x.cell? ⟨Bs, 0, none⟩ = some (.string u) ∧ x.cell? ⟨b, 1, none⟩ = some (.map (some mb))) → (z.cell? ⟨Bf, 0, none⟩ = some (.pointer (some ⟨b, 0, none⟩)) ∧ z.cell? ⟨Bn, 0, none⟩ = some (.string s) ∧ z.cell? ⟨Bs, 0, none⟩ = some (.string u) ∧ z.cell? ⟨b, 1, none⟩ = some (.map (some mb))) :=
  fun G x z hk h1 h2 h3 h4 hc => ⟨hk.cell hc.1 h1, hk.cell hc.2.1 h2, hk.cell hc.2.2.1 h3, hk.cell hc.2.2.2 h4⟩
 have HSK := Lib.hid hSK
 obtain ⟨X0, hX0⟩ : ∃ X0, X0 = (w.setCell ⟨b, 1, none⟩ (.map (some w.heap.size))).alloc (.map #[] 0) := ⟨_, rfl⟩
 have hbl := block_lt_of_cell e4
 have P1 : Bf ≠ mb := by have := block_lt_of_cell e2; simp at this; omega
 have P2 : Bn ≠ mb := by have := block_lt_of_cell e3; simp at this; omega
 have P3 : Bs ≠ mb := by have := block_lt_of_cell e5; simp at this; omega
 have N4 : b ≠ mb := by simp at hbl; omega
 have HKW := Lib.hid (show Keep F w X0 by rw [hX0]; exact ((Keep.refl F w).setCell (p := ⟨b, 1, none⟩) (Or.inl hbF) _).alloc _)
 have HV := Lib.hid (show FilesV n₀ X0 mb (.map []) (fun _ => .slice none 0 0) M.L none by
  rw [hX0, hL0, hmb]
  have hz : (w.setCell ⟨b, 1, none⟩ (.map (some w.heap.size))).heap.size = w.heap.size := by simp [World.setCell]
  have := FilesV.nil (n₀ := n₀) (w.setCell ⟨b, 1, none⟩ (.map (some w.heap.size))) (fun _ => .slice none 0 0) (by rw [hz]; exact hn0)
  rwa [hz] at this)
 have HH := Lib.hid (show Hdr X0 b M (.map (some mb)) t by
  rw [hX0, hmb]
  exact ⟨by rw [Below.heap_alloc _ _ b (by simpa [World.setCell] using hbl), blk_set h.1 1 _]; rfl, h.2⟩)
 have HS := Lib.hid hS
 have HY := Lib.hid (show getF s.data.toList M.L = none by rw [hL0]; rfl)
 have HMB := Lib.hid (show mb ∈ F ∨ w.heap.size ≤ mb from Or.inr (by omega))
 have HVF := Lib.hid (show ∀ z ∈ M.L, ∀ k, ((fun _ => .slice none 0 0 : List UInt8 → Value) z.name).ownBlock = some k → k ∈ F ∨ w.heap.size ≤ k from fun z hz k hk => by rw [hL0] at hz; cases hz)
 have HLK := Lib.hid (fun x (hb : Bel X0 x) => run_look_none (F := mb :: F) (Or.inr ⟨mb, _, _, rfl, HV.out.bel hb, by simp, fun y hy => by rw [hL0] at hy; cases hy⟩) s hs HY.out false)
 have HN0 := Lib.hid (show n₀ ≤ X0.heap.size from Nat.le_trans hn0 HKW.out.size)
 obtain ⟨nf1, nf2, nf3⟩ := nf
 have q2 := HKW.out.cell e2 nf1
 have q3 := HKW.out.cell e3 nf2
 have q5 := HKW.out.cell e5 nf3
 have q4 : X0.cell? ⟨b, 1, none⟩ = some (.map (some mb)) := by simp [World.cell?, HH.out.1]
 unfold conZ at HLK
 have hHX := Lib.hid hX0
 have hMB := Lib.hid hmb
 clear hSK h hS hX0 hmb hL0 nf1 nf2 nf3 hn0
 have hqn := nil_eq_nil
 have hmm := @run_makeMap Tryz.prog
 go_enter Tryz.func62, Tryz.ntmps62
 go_wp2_with (fail)
 rw [← hHX.out]
 try rw [← hMB.out]
 refine wp_region_held_drew (S := fun z => (z.cell? ⟨Bf, 0, none⟩ = some (.pointer (some ⟨b, 0, none⟩)) ∧ z.cell? ⟨Bn, 0, none⟩ = some (.string s) ∧ z.cell? ⟨Bs, 0, none⟩ = some (.string u) ∧ z.cell? ⟨b, 1, none⟩ = some (.map (some mb)))) (by kernel_rfl) ⟨q2, q3, q5, q4⟩ (fun hHeld => ?_)
 refine tq ⟨some 12, .load 55 (.tmp 0), 55, "file.go:38", #[], none⟩ ?_ 0 rfl ?_ ?_;rotate_left;·(intros;go_simp<;>with_reducible rfl)
 try simp only[Act.put,sqA,sqB,sqC]
 refine tq ⟨some 13, .nilCheck (.tmp 12), 0, "file.go:38", #[⟨0, .data⟩], none⟩ ?_ 1 rfl ?_ ?_;rotate_left;·(intros;go_simp<;>with_reducible rfl)
 try simp only[Act.put,sqA,sqB,sqC]
 refine tq ⟨some 14, .fieldAddr 113 (.tmp 13) 1, 0, "file.go:38", #[⟨1, .data⟩], none⟩ ?_ 2 rfl ?_ ?_;rotate_left;·(intros;go_simp<;>with_reducible rfl)
 try simp only[Act.put,sqA,sqB,sqC]
 refine tq ⟨some 15, .load 111 (.tmp 14), 111, "file.go:38", #[⟨2, .data⟩], none⟩ ?_ 3 rfl ?_ ?_;rotate_left;·(intros;go_simp<;>with_reducible rfl)
 try simp only[Act.put,sqA,sqB,sqC]
 refine tq ⟨some 16, .load 9 (.tmp 1), 9, "file.go:38", #[], none⟩ ?_ 4 rfl ?_ ?_;rotate_left;·(intros;go_simp<;>with_reducible rfl)
 try simp only[Act.put,sqA,sqB,sqC]
 refine tq ⟨some 17, .load 55 (.tmp 0), 55, "file.go:38", #[], none⟩ ?_ 5 rfl ?_ ?_;rotate_left;·(intros;go_simp<;>with_reducible rfl)
 try simp only[Act.put,sqA,sqB,sqC]
 refine tq ⟨some 18, .nilCheck (.tmp 17), 0, "file.go:38", #[⟨5, .data⟩], none⟩ ?_ 6 rfl ?_ ?_;rotate_left;·(intros;go_simp<;>with_reducible rfl)
 try simp only[Act.put,sqA,sqB,sqC]
 refine tq ⟨some 19, .fieldAddr 113 (.tmp 18) 1, 0, "file.go:38", #[⟨6, .data⟩], none⟩ ?_ 7 rfl ?_ ?_;rotate_left;·(intros;go_simp<;>with_reducible rfl)
 try simp only[Act.put,sqA,sqB,sqC]
 refine tq ⟨some 20, .load 111 (.tmp 19), 111, "file.go:38", #[⟨7, .data⟩], none⟩ ?_ 8 rfl ?_ ?_;rotate_left;·(intros;go_simp<;>with_reducible rfl)
 try simp only[Act.put,sqA,sqB,sqC]
 refine tq ⟨some 21, .load 9 (.tmp 1), 9, "file.go:38", #[], none⟩ ?_ 9 rfl ?_ ?_;rotate_left;·(intros;go_simp<;>with_reducible rfl)
 try simp only[Act.put,sqA,sqB,sqC]
 refine tq ⟨some 23, .load 9 (.tmp 2), 9, "file.go:38", #[], none⟩ ?_ 11 rfl ?_ ?_;rotate_left;·(intros;go_simp<;>with_reducible rfl)
 try simp only[Act.put,sqA,sqB,sqC]
 refine wpAnyH_ready (rs := [10]) (by kernel_rfl) (by simp) ?_
 refine ar1 ⟨some 22, .lookup 111 (.tmp 20) (.tmp 21) false, 116, "file.go:38", #[⟨8, .data⟩, ⟨9, .data⟩], none⟩ rfl (fun K hK => ?_)
 refine step_look (mv := .map (some mb)) (kv := .string s) (r := .agg #[.slice none 0 0, .int .i64 0]) rfl (.tmp 20) (.tmp 21) rfl rfl rfl (HLK.out _ (Bel.refl _).drew) ?_
 refine hK.out _ _ hHeld (fun hHeld1 => ?_)
 clear hK K
 try simp only[Act.put,sqA,sqB,sqC]
 refine wpAnyH_ready (rs := [12]) (by kernel_rfl) (by simp) ?_
 refine ar1 ⟨some 24, .call ⟨.value (.func 63), #[.tmp 22, .tmp 23], #[116, 9]⟩, 116, "file.go:38", #[⟨10, .data⟩, ⟨11, .data⟩], none⟩ rfl (fun K hK => ?_)
 go_simp
 refine (extended_nil n₀ X0.drew u hu HN0.out).mono ?_
 rintro e w2 ⟨v', rfl, hv1, hk1, hl1⟩
 have D1 := Lib.hid ((Keep.of_bel (Bel.refl X0).drew []).trans hk1 (fun x hx => Or.inl hx))
 have S2 := HSK.out [] _ _ hk1 (by simp) (by simp) (by simp) (by simp) hHeld
 have HV1 := Lib.hid hv1
 have HL1 := Lib.hid hl1
 have HV2 := Lib.hid (show FilesV n₀ w2 mb (.map []) (fun _ => .slice none 0 0) M.L none from HV.out.keep D1.out (by simp) (fun _ _ _ _ _ => by simp))
 clear hk1 hv1 hl1
 dsimp only
 refine hK.out _ _ S2 (fun hHeld2 => ?_)
 clear hK K
 try simp only[Act.put,sqA,sqB,sqC]
 refine wpAnyH_ready (rs := [13]) (by kernel_rfl) (by simp) ?_
 refine ar1 ⟨none, .mapUpdate 111 (.tmp 15) (.tmp 16) (.tmp 24), 0, "file.go:38", #[⟨3, .data⟩, ⟨4, .data⟩, ⟨12, .data⟩, ⟨12, .chain⟩, ⟨0, .phase⟩, ⟨1, .phase⟩, ⟨2, .phase⟩, ⟨3, .phase⟩, ⟨4, .phase⟩, ⟨5, .phase⟩, ⟨6, .phase⟩, ⟨7, .phase⟩, ⟨8, .phase⟩, ⟨9, .phase⟩, ⟨10, .phase⟩, ⟨11, .phase⟩, ⟨12, .phase⟩], none⟩ rfl (fun K hK => ?_)
 refine step_store (mb := mb) (s := s) (val := .agg #[v', .int .i64 0]) rfl (.tmp 15) (.tmp 16) (.tmp 24) rfl rfl rfl rfl HV2.out.own (by omega) hs ?_
 intro w3 ho hk
 refine hK.out _ _ (HSK.out [mb] _ _ hk (by simpa using P1) (by simpa using P2) (by simpa using P3) (by simpa using N4) S2) (fun hHeld3 => ?_)
 clear hK K
 try simp only[Act.put,sqA,sqB,sqC]
 refine wpAnyH_done (by kernel_rfl) ?_ _
 have HO := Lib.hid ho
 have HK := Lib.hid hk
 clear ho hk hHeld hHeld1 hHeld2 hHeld3 S2
 go_wp2_with (fail)
 go_end0
 have hval := HV1.out.keep HK.out (fun k hk1 hk2 => by
  rw [List.mem_singleton] at hk2
  subst hk2
  exact HV2.out.ne_row HV1.out hk1)
 have hadd : addF s.data.toList u.data.toList M.L = ⟨s.data.toList, u.data.toList, 0⟩ := by unfold addF; rw [HY.out]
 have hput := FilesV.put (y := ⟨s.data.toList, u.data.toList, 0⟩) (v' := v') HS.out (HV2.out.weak s.data.toList) (x := w3) (n := M.L.length + 1) (by
   have := HO.out
   exact this) HK.out hval (fun z hz hne k hk => by
   have h1 := HL1.out k hk
   intro h2
   have := ((HV.out.val z hz (by simp)).lt k h2).2
   simp at h1
   omega)
 rw [hadd]
 have KK := ((HKW.out.trans (D1.out.mono (G := F) (fun x hx => by cases hx)) (fun x hx => Or.inl hx))).trans (HK.out.mono (G := mb :: F) (fun x hx => by rw [List.mem_singleton] at hx; rw [hx]; simp)) (fun x hx => by
  rcases List.mem_cons.1 hx with rfl | hx
  ·exact HMB.out
  ·exact Or.inl hx)
 refine ⟨rfl, mb, _, _, (HH.out.keep D1.out (by simp)).keep HK.out (by simpa using N4), hput, KK, HMB.out, fun z hz k hk => ?_⟩
 by_cases he : z.name = s.data.toList
 ·simp only [he, if_true] at hk
  exact Or.inr (Nat.le_trans HKW.out.size (by simpa using HL1.out k hk))
 ·simp only [he, if_false] at hk
  rcases mem_ins hz with rfl | hz
  ·exact absurd rfl he
  ·exact HVF.out z hz k hk


def chgS (M : RS) (L' : List FI) : Int × RS := if M.turns = 0 then (7, (turnS M).2) else (0, { (turnS M).2 with L := L' })
def addS (nm s : List UInt8) (M : RS) : Int × RS := if admS nm s.length M = 0 then chgS M (insS (addF nm s M.L) M.L) else (admS nm s.length M, M)
def onS (nm : List UInt8) (M : RS) (k : FI → Int × RS) : Int × RS := if M.gone then (7, M) else match getF nm M.L with
 | some y => k y
 | none => (4, M)
def flushS (nm : List UInt8) (M : RS) : Int × RS := onS nm M fun y => chgS M (insS { y with safe := y.bytes.length } M.L)
def cutS (nm : List UInt8) (n : Int) (M : RS) : Int × RS := onS nm M fun y => if n < 0 ∨ (y.bytes.length : Int) < n then (2, M) else chgS M (insS { y with bytes := y.bytes.take n.toNat, safe := min y.safe n.toNat } M.L)
def dropS (nm : List UInt8) (M : RS) : Int × RS := onS nm M fun y => chgS M (outS nm M.L)
theorem turn_L (M : RS) : (turnS M).2.L = M.L := by unfold turnS; split; rfl; split <;> rfl
theorem run_enter {f : FuncId} {fn : Func} {c : Code} (hf : Tryz.prog.funcs[f]? = some fn) (hname : (fn.name == "runtime.NumGoroutine") = false) (hb : fn.body = some c) (args : Array Value) (w : World) : (callFunc f args).run Tryz.prog w = .ok (.enter f args) w := by
 have h1 : fn.name ≠ "runtime.NumGoroutine" := by simpa using hname
 simp [callFunc, hf, h1, hb]
section
variable {n₀ : Nat} {w w1 x : World} {b : Nat} {M M' : RS} {F : List Nat} {mb : Nat} {t : Int} {V : List UInt8 → Value} {L L' : List FI} {mv : Value}
theorem ProgTo.mk' (hlow : n₀ ≤ b) (hbF : b ∈ F) (hFw : ∀ k ∈ F, n₀ ≤ k ∧ k < w.heap.size) (hn0 : n₀ ≤ w.heap.size) (hk : Keep F w x) {D : DataW Value} (hdr : Hdr x b M (.map (some mb)) t) (hV : FilesV n₀ x mb D V M.L none) (hmb : mb ∈ F ∨ w.heap.size ≤ mb)
  (hv : ∀ z ∈ M.L, ∀ k, (V z.name).ownBlock = some k → k ∈ F ∨ w.heap.size ≤ k) : ProgTo n₀ w x b M F := by
 refine ⟨mb :: (F ++ M.L.filterMap fun z => (V z.name).ownBlock), ⟨⟨_, t, hdr.1, hdr.2.1, hdr.2.2, Or.inr ⟨mb, D, V, rfl, hV, by simp, fun z hz k hk => by
  rw [List.mem_cons, List.mem_append, List.mem_filterMap]
  exact Or.inr (Or.inr ⟨z, hz, hk⟩)⟩⟩, hlow, by simp [hbF], fun k hk' => ?_⟩, hk, fun k hk' => ?_⟩
 ·rw [List.mem_cons, List.mem_append, List.mem_filterMap] at hk'
  rcases hk' with rfl | hk' | ⟨z, hz, hk'⟩
  ·exact ⟨hV.low, hV.lt⟩
  ·exact ⟨(hFw k hk').1, Nat.lt_of_lt_of_le (hFw k hk').2 hk.size⟩
  ·exact (hV.val z hz (by simp)).lt k hk'
 ·rw [List.mem_cons, List.mem_append, List.mem_filterMap] at hk'
  rcases hk' with rfl | hk' | ⟨z, hz, hk'⟩
  ·exact hmb
  ·exact Or.inl hk'
  ·exact hv z hz k hk'
theorem prog_of_chg (hlow : n₀ ≤ b) (hbF : b ∈ F) (hFw : ∀ k ∈ F, n₀ ≤ k ∧ k < w.heap.size) (hn0 : n₀ ≤ w.heap.size) (hk : Keep F w w1) (hmF : mb ∈ F) (hvF : ∀ z ∈ L, ∀ k, (V z.name).ownBlock = some k → k ∈ F)
  (hc : Chg n₀ w1 x b M mb t V L L' [mb]) : ProgTo n₀ w x b { M with L := L' } F := by
 obtain ⟨D', V', h1, h2, h3, h4⟩ := hc
 refine ProgTo.mk' hlow hbF hFw hn0 (hk.trans (h3.mono (G := F) (fun x hx => by rw [List.mem_singleton] at hx; rw [hx]; exact hmF)) (fun x hx => Or.inl hx)) h1 h2 (Or.inl hmF) (fun z hz k hk' => ?_)
 rcases h4 z hz k hk' with ⟨u, hu, h5⟩ | h5
 ·exact Or.inl (hvF u hu k h5)
 ·exact Or.inr (Nat.le_trans hk.size h5)
theorem prog_of_added (hlow : n₀ ≤ b) (hbF : b ∈ F) (hFw : ∀ k ∈ F, n₀ ≤ k ∧ k < w.heap.size) (hn0 : n₀ ≤ w.heap.size) (hk : Keep F w w1) (hc : Added n₀ w1 x b M t L' F) : ProgTo n₀ w x b { M with L := L' } F := by
 obtain ⟨mb, D', V', h1, h2, h3, h4, h5⟩ := hc
 refine ProgTo.mk' hlow hbF hFw hn0 (hk.trans h3 (fun x hx => Or.inl hx)) h1 h2 (h4.imp id (fun h => Nat.le_trans hk.size h)) (fun z hz k hk' => (h5 z hz k hk').imp id (fun h => Nat.le_trans hk.size h))
theorem prog_of_hdr (h : ProgAt n₀ w b M F) (hmv : ∀ mv t, Hdr w b M mv t → ∃ t', Hdr x b M' mv t') (hL : M'.L = M.L) (hk : ∃ y, Bel w y ∧ Keep [b] y x) : ProgTo n₀ w x b M' F := by
 obtain ⟨y, hb, hk⟩ := hk
 have hK := (Keep.of_bel hb [b]).trans hk (fun x hx => Or.inl hx)
 obtain ⟨G, h1, h2, h3⟩ := h.set2 (x := x) (M' := M') (fun mv t h1 h2 h3 => by
  obtain ⟨t', h⟩ := hmv mv t ⟨h1, h2, h3⟩
  exact ⟨t', h⟩) hL hK
 exact ⟨G, h1, h2, h3⟩
end
theorem le_sz {n₀ : Nat} {w : World} {b : Nat} {M : RS} {F : List Nat} (h : ProgAt n₀ w b M F) : n₀ ≤ w.heap.size := by
 have := h.within b h.mem; omega

set_option maxHeartbeats 4000000 in
set_option maxRecDepth 20000 in
theorem pflush_any (n₀ : Nat) (w : World) (b : Nat) (M : RS) (F : List Nat) (s : ByteArray) (h : ProgAt n₀ w b M F) (hs : s.size ≤ maxLen) (hS : Srt M.L) (hL : M.L.length ≤ 1000) :
  Calls Tryz.prog 88 #[.pointer (some ⟨b, 0, none⟩), .string s] w fun e w' => e = .returned (.int .i64 (flushS s.data.toList M).1) ∧ ProgTo n₀ w w' b (flushS s.data.toList M).2 F := by
 have HP := Lib.hid h
 obtain ⟨⟨mv, t, hb, ht, h64, hf⟩, hlow, hbF, hFw⟩ := h
 have B2 := Lib.hid (((Bel.refl w).alloc (.cells #[.pointer (some ⟨b, 0, none⟩)] 55)).alloc (.cells #[.string s] 9))
 cases hg : M.gone with
 | true =>
  have HA := Lib.hid (show flushS s.data.toList M = (7, M) by unfold flushS onS; rw [if_pos hg])
  have HG := Lib.hid hg
  clear hb hf hg hFw ht h64
  go_enter Tryz.func88, Tryz.ntmps88
  go_wp2_with (fail)
  refine (find_gone n₀ _ b M F s (HP.out.bel B2.out) HG.out).mono ?_
  rintro e w1 ⟨rfl, hb1⟩
  have HB := Lib.hid (B2.out.trans hb1)
  clear hb1
  unfold conZ
  go_wp2_with (fail)
  go_ret
  rw [HA.out]
  exact ⟨rfl, HP.out.to (HB.out.alloc _)⟩
 | false =>
  cases hy : getF s.data.toList M.L with
  | none =>
   have HA := Lib.hid (show flushS s.data.toList M = (4, M) by unfold flushS onS; rw [hg, hy]; rfl)
   have HG := Lib.hid hg
   have HY := Lib.hid hy
   clear hb hf hg hy hFw ht h64
   go_enter Tryz.func88, Tryz.ntmps88
   go_wp2_with (fail)
   refine (find_none n₀ _ b M F s (HP.out.bel B2.out) HG.out hs HY.out).mono ?_
   rintro e w1 ⟨rfl, hb1⟩
   have HB := Lib.hid (B2.out.trans hb1)
   clear hb1
   unfold conZ
   go_wp2_with (fail)
   go_ret
   rw [HA.out]
   exact ⟨rfl, HP.out.to (HB.out.alloc _)⟩
  | some y =>
   rcases hf with ⟨_, hL0⟩ | ⟨mb, D, V, rfl, hV, hmF, hvF⟩
   ·rw [hL0] at hy; cases hy
   have HA := Lib.hid (show flushS s.data.toList M = chgS M (insS { y with safe := y.bytes.length } M.L) by unfold flushS onS; rw [hg, hy]; rfl)
   have hsn : s.data.toList = y.name := (getF_name hy).symm
   obtain ⟨p, cap, hp, -⟩ := own_len (hV.val y (getF_mem hy) (by simp))
   have HF := Lib.hid (fun x (hx : Bel w x) => find_some n₀ x b M mb t D V s y ((Keep.of_bel hx []).at hb (by simp)) (hV.bel hx) hg hs hy)
   rw [hsn, hp] at HF
   unfold conV at HF
   have HV := Lib.hid hV
   have HH := Lib.hid (show Hdr w b M (.map (some mb)) t from ⟨hb, ht, h64⟩)
   have HS := Lib.hid hS
   have HY := Lib.hid hy
   have HPV := Lib.hid hp
   have HFW := Lib.hid hFw
   have HMF := Lib.hid hmF
   have HVF := Lib.hid hvF
   have hbw : b < w.heap.size := (hFw b hbF).2
   clear hb hV hg hy hp hFw ht h64 hmF hvF hS hsn
   go_enter Tryz.func88, Tryz.ntmps88
   go_wp2_with (fail)
   refine (HF.out _ B2.out).mono ?_
   rintro e w1 ⟨rfl, hb1⟩
   have HB := Lib.hid (B2.out.trans hb1)
   have hz : w.heap.size + 1 < w1.heap.size := by have := hb1.size; simp at this; omega
   have hz0 : w.heap.size < w1.heap.size := by omega
   have k0 : w1.cell? ⟨w.heap.size, 0, none⟩ = some (.pointer (some ⟨b, 0, none⟩)) := cell_later hb1 (by go_simp)
   have k1 : w1.cell? ⟨w.heap.size + 1, 0, none⟩ = some (.string s) := cell_later hb1 (by go_simp)
   clear hb1
   go_wp2_with (fail)
   obtain ⟨w2, hw2⟩ : ∃ w2, w2 = w1.alloc (.cells #[.slice p y.bytes.length cap, .int .i64 y.safe] 116) := ⟨_, rfl⟩
   rw [← hw2]
   have HB2 := Lib.hid (show Bel w w2 by rw [hw2]; exact HB.out.alloc _)
   have m0 : w2.cell? ⟨w.heap.size, 0, none⟩ = some (.pointer (some ⟨b, 0, none⟩)) := by rw [hw2]; exact cell_later ((Bel.refl w1).alloc _) k0
   have m1 : w2.cell? ⟨w.heap.size + 1, 0, none⟩ = some (.string s) := by rw [hw2]; exact cell_later ((Bel.refl w1).alloc _) k1
   have m2 : w2.cell? ⟨w1.heap.size, 0, none⟩ = some (.slice p y.bytes.length cap) := by rw [hw2]; go_simp
   have m3 : w2.cell? ⟨w1.heap.size, 1, none⟩ = some (.int .i64 y.safe) := by rw [hw2]; go_simp
   have hne := HH.out.ne HV.out.own
   refine (pturn_any w2 b M (.map (some mb)) t _ _ (HH.out.keep (Keep.of_bel HB2.out []) (by simp)) (fun z => ProgTo n₀ w z b { (turnS M).2 with L := insS { y with safe := y.bytes.length } M.L } F) (run_enter Tryz.func120 (by kernel_rfl) rfl _) ?_).mono ?_
   ·intro w3 t3 hdr hk
    have hV3 : FilesV n₀ w3 mb D V (turnS M).2.L none := by
     rw [turn_L]
     exact (HV.out.bel HB2.out).keep hk (by simpa using fun e => hne e.symm) (fun u hu _ k hk1 hk2 => by
      rw [List.mem_singleton] at hk2
      subst hk2
      exact HH.out.ne_row (HV.out.val u hu (by simp)) (by rw [Option.mem_toList]; exact hk1))
    refine (flushcl_any n₀ w3 b mb (turnS M).2 t3 D V w1.heap.size w.heap.size (w.heap.size + 1) s y hdr hV3 (by rw [turn_L]; exact HS.out) (by rw [turn_L]; exact hL) hs (by rw [turn_L]; exact HY.out) HPV.out rfl
     (hk.cell m2 (by simp; omega)) (hk.cell m3 (by simp; omega)) (hk.cell m0 (by simp; omega)) (hk.cell m1 (by simp; omega))).mono ?_
    rintro e w4 ⟨rfl, hc⟩
    rw [turn_L] at hc
    exact ⟨rfl, prog_of_chg hlow hbF HFW.out (le_sz HP.out) ((Keep.of_bel HB2.out F).trans (hk.mono (G := F) (fun x hx => by rw [List.mem_singleton] at hx; rw [hx]; exact hbF)) (fun x hx => Or.inl hx)) HMF.out HVF.out hc⟩
   ·rintro e w5 ⟨rfl, h0, h1⟩
    have R0 := Lib.hid h0
    have R1 := Lib.hid h1
    clear h0 h1 hw2
    go_wp2_with (fail)
    go_ret
    rw [HA.out]
    unfold chgS
    by_cases hT : M.turns = 0
    ·rw [if_pos hT]
     obtain ⟨r1, r2⟩ := R0.out hT
     exact ⟨ret_int (by rw [turnS_zero hT]), prog_of_hdr HP.out (fun mv' t' h' => ⟨t, by
      have e : mv' = .map (some mb) := by
       have := h'.1.symm.trans HH.out.1
       simp at this
       exact this.1
      rw [e]; exact r1⟩) (turn_L M) ⟨w2, HB2.out, r2⟩⟩
    ·rw [if_neg hT]
     refine ⟨?_, R1.out hT⟩
     rcases Int.lt_or_gt_of_ne hT with h | h
     ·exact ret_int (by rw [turnS_neg h])
     ·exact ret_int (by rw [turnS_pos h])

set_option maxHeartbeats 4000000 in
set_option maxRecDepth 20000 in
theorem pdrop_any (n₀ : Nat) (w : World) (b : Nat) (M : RS) (F : List Nat) (s : ByteArray) (h : ProgAt n₀ w b M F) (hs : s.size ≤ maxLen) (hS : Srt M.L) (hL : M.L.length ≤ 1000) :
  Calls Tryz.prog 90 #[.pointer (some ⟨b, 0, none⟩), .string s] w fun e w' => e = .returned (.int .i64 (dropS s.data.toList M).1) ∧ ProgTo n₀ w w' b (dropS s.data.toList M).2 F := by
 have HP := Lib.hid h
 obtain ⟨⟨mv, t, hb, ht, h64, hf⟩, hlow, hbF, hFw⟩ := h
 have B2 := Lib.hid (((Bel.refl w).alloc (.cells #[.pointer (some ⟨b, 0, none⟩)] 55)).alloc (.cells #[.string s] 9))
 cases hg : M.gone with
 | true =>
  have HA := Lib.hid (show dropS s.data.toList M = (7, M) by unfold dropS onS; rw [if_pos hg])
  have HG := Lib.hid hg
  clear hb hf hg hFw ht h64
  go_enter Tryz.func90, Tryz.ntmps90
  go_wp2_with (fail)
  refine (find_gone n₀ _ b M F s (HP.out.bel B2.out) HG.out).mono ?_
  rintro e w1 ⟨rfl, hb1⟩
  have HB := Lib.hid (B2.out.trans hb1)
  clear hb1
  unfold conZ
  go_wp2_with (fail)
  go_ret
  rw [HA.out]
  exact ⟨rfl, HP.out.to (HB.out.alloc _)⟩
 | false =>
  cases hy : getF s.data.toList M.L with
  | none =>
   have HA := Lib.hid (show dropS s.data.toList M = (4, M) by unfold dropS onS; rw [hg, hy]; rfl)
   have HG := Lib.hid hg
   have HY := Lib.hid hy
   clear hb hf hg hy hFw ht h64
   go_enter Tryz.func90, Tryz.ntmps90
   go_wp2_with (fail)
   refine (find_none n₀ _ b M F s (HP.out.bel B2.out) HG.out hs HY.out).mono ?_
   rintro e w1 ⟨rfl, hb1⟩
   have HB := Lib.hid (B2.out.trans hb1)
   clear hb1
   unfold conZ
   go_wp2_with (fail)
   go_ret
   rw [HA.out]
   exact ⟨rfl, HP.out.to (HB.out.alloc _)⟩
  | some y =>
   rcases hf with ⟨_, hL0⟩ | ⟨mb, D, V, rfl, hV, hmF, hvF⟩
   ·rw [hL0] at hy; cases hy
   have HA := Lib.hid (show dropS s.data.toList M = chgS M (outS s.data.toList M.L) by unfold dropS onS; rw [hg, hy]; rfl)
   have hsn : s.data.toList = y.name := (getF_name hy).symm
   obtain ⟨p, cap, hp, -⟩ := own_len (hV.val y (getF_mem hy) (by simp))
   have HF := Lib.hid (fun x (hx : Bel w x) => find_some n₀ x b M mb t D V s y ((Keep.of_bel hx []).at hb (by simp)) (hV.bel hx) hg hs hy)
   rw [hsn, hp] at HF
   unfold conV at HF
   have HV := Lib.hid hV
   have HH := Lib.hid (show Hdr w b M (.map (some mb)) t from ⟨hb, ht, h64⟩)
   have HS := Lib.hid hS
   have HY := Lib.hid hy
   have HPV := Lib.hid hp
   have HFW := Lib.hid hFw
   have HMF := Lib.hid hmF
   have HVF := Lib.hid hvF
   have hbw : b < w.heap.size := (hFw b hbF).2
   clear hb hV hg hy hp hFw ht h64 hmF hvF hS hsn
   go_enter Tryz.func90, Tryz.ntmps90
   go_wp2_with (fail)
   refine (HF.out _ B2.out).mono ?_
   rintro e w1 ⟨rfl, hb1⟩
   have HB := Lib.hid (B2.out.trans hb1)
   have hz : w.heap.size + 1 < w1.heap.size := by have := hb1.size; simp at this; omega
   have hz0 : w.heap.size < w1.heap.size := by omega
   have k0 : w1.cell? ⟨w.heap.size, 0, none⟩ = some (.pointer (some ⟨b, 0, none⟩)) := cell_later hb1 (by go_simp)
   have k1 : w1.cell? ⟨w.heap.size + 1, 0, none⟩ = some (.string s) := cell_later hb1 (by go_simp)
   clear hb1
   go_wp2_with (fail)
   obtain ⟨w2, hw2⟩ : ∃ w2, w2 = w1.alloc (.cells #[.slice p y.bytes.length cap, .int .i64 y.safe] 116) := ⟨_, rfl⟩
   rw [← hw2]
   have HB2 := Lib.hid (show Bel w w2 by rw [hw2]; exact HB.out.alloc _)
   have m0 : w2.cell? ⟨w.heap.size, 0, none⟩ = some (.pointer (some ⟨b, 0, none⟩)) := by rw [hw2]; exact cell_later ((Bel.refl w1).alloc _) k0
   have m1 : w2.cell? ⟨w.heap.size + 1, 0, none⟩ = some (.string s) := by rw [hw2]; exact cell_later ((Bel.refl w1).alloc _) k1
   have m2 : w2.cell? ⟨w1.heap.size, 0, none⟩ = some (.slice p y.bytes.length cap) := by rw [hw2]; go_simp
   have m3 : w2.cell? ⟨w1.heap.size, 1, none⟩ = some (.int .i64 y.safe) := by rw [hw2]; go_simp
   have hne := HH.out.ne HV.out.own
   refine (pturn_any w2 b M (.map (some mb)) t _ _ (HH.out.keep (Keep.of_bel HB2.out []) (by simp)) (fun z => ProgTo n₀ w z b { (turnS M).2 with L := outS s.data.toList M.L } F) (run_enter Tryz.func123 (by kernel_rfl) rfl _) ?_).mono ?_
   ·intro w3 t3 hdr hk
    have hV3 : FilesV n₀ w3 mb D V (turnS M).2.L none := by
     rw [turn_L]
     exact (HV.out.bel HB2.out).keep hk (by simpa using fun e => hne e.symm) (fun u hu _ k hk1 hk2 => by
      rw [List.mem_singleton] at hk2
      subst hk2
      exact HH.out.ne_row (HV.out.val u hu (by simp)) (by rw [Option.mem_toList]; exact hk1))
    refine (dropcl_any n₀ w3 b mb (turnS M).2 t3 D V w.heap.size (w.heap.size + 1) s hdr hV3 (by rw [turn_L]; exact HS.out) hs
     (hk.cell m0 (by simp; omega)) (hk.cell m1 (by simp; omega))).mono ?_
    rintro e w4 ⟨rfl, hc⟩
    rw [turn_L] at hc
    exact ⟨rfl, prog_of_chg hlow hbF HFW.out (le_sz HP.out) ((Keep.of_bel HB2.out F).trans (hk.mono (G := F) (fun x hx => by rw [List.mem_singleton] at hx; rw [hx]; exact hbF)) (fun x hx => Or.inl hx)) HMF.out HVF.out hc⟩
   ·rintro e w5 ⟨rfl, h0, h1⟩
    have R0 := Lib.hid h0
    have R1 := Lib.hid h1
    clear h0 h1 hw2
    go_wp2_with (fail)
    go_ret
    rw [HA.out]
    unfold chgS
    by_cases hT : M.turns = 0
    ·rw [if_pos hT]
     obtain ⟨r1, r2⟩ := R0.out hT
     exact ⟨ret_int (by rw [turnS_zero hT]), prog_of_hdr HP.out (fun mv' t' h' => ⟨t, by
      have e : mv' = .map (some mb) := by
       have := h'.1.symm.trans HH.out.1
       simp at this
       exact this.1
      rw [e]; exact r1⟩) (turn_L M) ⟨w2, HB2.out, r2⟩⟩
    ·rw [if_neg hT]
     refine ⟨?_, R1.out hT⟩
     rcases Int.lt_or_gt_of_ne hT with h | h
     ·exact ret_int (by rw [turnS_neg h])
     ·exact ret_int (by rw [turnS_pos h])

set_option maxHeartbeats 4000000 in
set_option maxRecDepth 20000 in
theorem pcut_any (n₀ : Nat) (w : World) (b : Nat) (M : RS) (F : List Nat) (s : ByteArray) (q : Int) (hq : in64 q) (hsz : ∀ z ∈ M.L, z.bytes.length ≤ 1000000000) (h : ProgAt n₀ w b M F) (hs : s.size ≤ maxLen) (hS : Srt M.L) (hL : M.L.length ≤ 1000) :
  Calls Tryz.prog 153 #[.pointer (some ⟨b, 0, none⟩), .string s, .int .i64 q] w fun e w' => e = .returned (.int .i64 (cutS s.data.toList q M).1) ∧ ProgTo n₀ w w' b (cutS s.data.toList q M).2 F := by
 have HP := Lib.hid h
 obtain ⟨⟨mv, t, hb, ht, h64, hf⟩, hlow, hbF, hFw⟩ := h
 have B2 := Lib.hid ((((Bel.refl w).alloc (.cells #[.pointer (some ⟨b, 0, none⟩)] 55)).alloc (.cells #[.string s] 9)).alloc (.cells #[.int .i64 q] 3))
 cases hg : M.gone with
 | true =>
  have HA := Lib.hid (show cutS s.data.toList q M = (7, M) by unfold cutS onS; rw [if_pos hg])
  have HG := Lib.hid hg
  clear hb hf hg hFw ht h64
  go_enter Tryz.func153, Tryz.ntmps153
  go_wp2_with (fail)
  refine (find_gone n₀ _ b M F s (HP.out.bel B2.out) HG.out).mono ?_
  rintro e w1 ⟨rfl, hb1⟩
  have HB := Lib.hid (B2.out.trans hb1)
  clear hb1
  unfold conZ
  go_wp2_with (fail)
  go_ret
  rw [HA.out]
  exact ⟨rfl, HP.out.to (HB.out.alloc _)⟩
 | false =>
  cases hy : getF s.data.toList M.L with
  | none =>
   have HA := Lib.hid (show cutS s.data.toList q M = (4, M) by unfold cutS onS; rw [hg, hy]; rfl)
   have HG := Lib.hid hg
   have HY := Lib.hid hy
   clear hb hf hg hy hFw ht h64
   go_enter Tryz.func153, Tryz.ntmps153
   go_wp2_with (fail)
   refine (find_none n₀ _ b M F s (HP.out.bel B2.out) HG.out hs HY.out).mono ?_
   rintro e w1 ⟨rfl, hb1⟩
   have HB := Lib.hid (B2.out.trans hb1)
   clear hb1
   unfold conZ
   go_wp2_with (fail)
   go_ret
   rw [HA.out]
   exact ⟨rfl, HP.out.to (HB.out.alloc _)⟩
  | some y =>
   rcases hf with ⟨_, hL0⟩ | ⟨mb, D, V, rfl, hV, hmF, hvF⟩
   ·rw [hL0] at hy; cases hy
   have HA := Lib.hid (show cutS s.data.toList q M = if q < 0 ∨ (y.bytes.length : Int) < q then (2, M) else chgS M (insS { y with bytes := y.bytes.take q.toNat, safe := min y.safe q.toNat } M.L) by unfold cutS onS; rw [hg, hy]; rfl)
   have hyz := hsz y (getF_mem hy)
   have hsn : s.data.toList = y.name := (getF_name hy).symm
   obtain ⟨p, cap, hp, -⟩ := own_len (hV.val y (getF_mem hy) (by simp))
   have HF := Lib.hid (fun x (hx : Bel w x) => find_some n₀ x b M mb t D V s y ((Keep.of_bel hx []).at hb (by simp)) (hV.bel hx) hg hs hy)
   rw [hsn, hp] at HF
   unfold conV at HF
   have HV := Lib.hid hV
   have HH := Lib.hid (show Hdr w b M (.map (some mb)) t from ⟨hb, ht, h64⟩)
   have HS := Lib.hid hS
   have HY := Lib.hid hy
   have HPV := Lib.hid hp
   have HFW := Lib.hid hFw
   have HMF := Lib.hid hmF
   have HVF := Lib.hid hvF
   have hbw : b < w.heap.size := (hFw b hbF).2
   clear hb hV hg hy hp hFw ht h64 hmF hvF hS hsn
   by_cases h1 : q < 0
   ·rw [if_pos (Or.inl h1)] at HA
    go_enter Tryz.func153, Tryz.ntmps153
    go_wp2_with (fail)
    refine (HF.out _ B2.out).mono ?_
    rintro e w1 ⟨rfl, hb1⟩
    have HB := Lib.hid (B2.out.trans hb1)
    have hz2 : w.heap.size + 2 < w1.heap.size := by have := hb1.size; simp at this; omega
    have hz : w.heap.size + 1 < w1.heap.size := by have := hb1.size; simp at this; omega
    have hz0 : w.heap.size < w1.heap.size := by omega
    have k0 : w1.cell? ⟨w.heap.size, 0, none⟩ = some (.pointer (some ⟨b, 0, none⟩)) := cell_later hb1 (by go_simp)
    have k1 : w1.cell? ⟨w.heap.size + 1, 0, none⟩ = some (.string s) := cell_later hb1 (by go_simp)
    have k2 : w1.cell? ⟨w.heap.size + 2, 0, none⟩ = some (.int .i64 q) := cell_later hb1 (by go_simp)
    clear hb1
    go_wp2_with (fail)
    go_ret
    rw [HA.out]
    exact ⟨rfl, HP.out.to (HB.out.alloc _)⟩
   ·by_cases h2 : (y.bytes.length : Int) < q
    ·rw [if_pos (Or.inr h2)] at HA
     go_enter Tryz.func153, Tryz.ntmps153
     go_wp2_with (fail)
     refine (HF.out _ B2.out).mono ?_
     rintro e w1 ⟨rfl, hb1⟩
     have HB := Lib.hid (B2.out.trans hb1)
     have hz2 : w.heap.size + 2 < w1.heap.size := by have := hb1.size; simp at this; omega
     have hz : w.heap.size + 1 < w1.heap.size := by have := hb1.size; simp at this; omega
     have hz0 : w.heap.size < w1.heap.size := by omega
     have k0 : w1.cell? ⟨w.heap.size, 0, none⟩ = some (.pointer (some ⟨b, 0, none⟩)) := cell_later hb1 (by go_simp)
     have k1 : w1.cell? ⟨w.heap.size + 1, 0, none⟩ = some (.string s) := cell_later hb1 (by go_simp)
     have k2 : w1.cell? ⟨w.heap.size + 2, 0, none⟩ = some (.int .i64 q) := cell_later hb1 (by go_simp)
     clear hb1
     go_wp2_with (fail)
     go_ret
     rw [HA.out]
     exact ⟨rfl, HP.out.to (HB.out.alloc _)⟩
    ·rw [if_neg (by omega)] at HA
     go_enter Tryz.func153, Tryz.ntmps153
     go_wp2_with (fail)
     refine (HF.out _ B2.out).mono ?_
     rintro e w1 ⟨rfl, hb1⟩
     have HB := Lib.hid (B2.out.trans hb1)
     have hz2 : w.heap.size + 2 < w1.heap.size := by have := hb1.size; simp at this; omega
     have hz : w.heap.size + 1 < w1.heap.size := by have := hb1.size; simp at this; omega
     have hz0 : w.heap.size < w1.heap.size := by omega
     have k0 : w1.cell? ⟨w.heap.size, 0, none⟩ = some (.pointer (some ⟨b, 0, none⟩)) := cell_later hb1 (by go_simp)
     have k1 : w1.cell? ⟨w.heap.size + 1, 0, none⟩ = some (.string s) := cell_later hb1 (by go_simp)
     have k2 : w1.cell? ⟨w.heap.size + 2, 0, none⟩ = some (.int .i64 q) := cell_later hb1 (by go_simp)
     clear hb1
     go_wp2_with (fail)
     obtain ⟨w2, hw2⟩ : ∃ w2, w2 = w1.alloc (.cells #[.slice p y.bytes.length cap, .int .i64 y.safe] 116) := ⟨_, rfl⟩
     rw [← hw2]
     have HB2 := Lib.hid (show Bel w w2 by rw [hw2]; exact HB.out.alloc _)
     have m0 : w2.cell? ⟨w.heap.size, 0, none⟩ = some (.pointer (some ⟨b, 0, none⟩)) := by rw [hw2]; exact cell_later ((Bel.refl w1).alloc _) k0
     have m1 : w2.cell? ⟨w.heap.size + 1, 0, none⟩ = some (.string s) := by rw [hw2]; exact cell_later ((Bel.refl w1).alloc _) k1
     have m4 : w2.cell? ⟨w.heap.size + 2, 0, none⟩ = some (.int .i64 q) := by rw [hw2]; exact cell_later ((Bel.refl w1).alloc _) k2
     have m2 : w2.cell? ⟨w1.heap.size, 0, none⟩ = some (.slice p y.bytes.length cap) := by rw [hw2]; go_simp
     have m3 : w2.cell? ⟨w1.heap.size, 1, none⟩ = some (.int .i64 y.safe) := by rw [hw2]; go_simp
     have hne := HH.out.ne HV.out.own
     refine (pturn_any w2 b M (.map (some mb)) t _ _ (HH.out.keep (Keep.of_bel HB2.out []) (by simp)) (fun z => ProgTo n₀ w z b { (turnS M).2 with L := insS { y with bytes := y.bytes.take q.toNat, safe := min y.safe q.toNat } M.L } F) (run_enter Tryz.func177 (by kernel_rfl) rfl _) ?_).mono ?_
     ·intro w3 t3 hdr hk
      have hV3 : FilesV n₀ w3 mb D V (turnS M).2.L none := by
       rw [turn_L]
       exact (HV.out.bel HB2.out).keep hk (by simpa using fun e => hne e.symm) (fun u hu _ k hk1 hk2 => by
        rw [List.mem_singleton] at hk2
        subst hk2
        exact HH.out.ne_row (HV.out.val u hu (by simp)) (by rw [Option.mem_toList]; exact hk1))
      refine (cutcl_any n₀ w3 b mb (turnS M).2 t3 D V w1.heap.size (w.heap.size + 2) w.heap.size (w.heap.size + 1) s y hdr hV3 (by rw [turn_L]; exact HS.out) (by rw [turn_L]; exact hL) hs (by rw [turn_L]; exact HY.out) HPV.out rfl q.toNat (by omega) (by rw [show ((q.toNat : Nat) : Int) = q by omega]; exact hk.cell m4 (by simp; omega))
       (hk.cell m2 (by simp; omega)) (hk.cell m3 (by simp; omega)) (hk.cell m0 (by simp; omega)) (hk.cell m1 (by simp; omega))).mono ?_
      rintro e w4 ⟨rfl, hc⟩
      rw [turn_L] at hc
      exact ⟨rfl, prog_of_chg hlow hbF HFW.out (le_sz HP.out) ((Keep.of_bel HB2.out F).trans (hk.mono (G := F) (fun x hx => by rw [List.mem_singleton] at hx; rw [hx]; exact hbF)) (fun x hx => Or.inl hx)) HMF.out HVF.out hc⟩
     ·rintro e w5 ⟨rfl, h0, h1⟩
      have R0 := Lib.hid h0
      have R1 := Lib.hid h1
      clear h0 h1 hw2
      go_wp2_with (fail)
      go_ret
      rw [HA.out]
      unfold chgS
      by_cases hT : M.turns = 0
      ·rw [if_pos hT]
       obtain ⟨r1, r2⟩ := R0.out hT
       exact ⟨ret_int (by rw [turnS_zero hT]), prog_of_hdr HP.out (fun mv' t' h' => ⟨t, by
        have e : mv' = .map (some mb) := by
         have := h'.1.symm.trans HH.out.1
         simp at this
         exact this.1
        rw [e]; exact r1⟩) (turn_L M) ⟨w2, HB2.out, r2⟩⟩
      ·rw [if_neg hT]
       refine ⟨?_, R1.out hT⟩
       rcases Int.lt_or_gt_of_ne hT with h | h
       ·exact ret_int (by rw [turnS_neg h])
       ·exact ret_int (by rw [turnS_pos h])


set_option maxHeartbeats 4000000 in
set_option maxRecDepth 20000 in
theorem padd_any (n₀ : Nat) (w : World) (b : Nat) (M : RS) (F : List Nat) (s u : ByteArray) (h : ProgAt n₀ w b M F) (hs : s.size ≤ 1000000) (hu : u.size ≤ 1000000) (hS : Srt M.L) (hL : M.L.length ≤ 1000) (hB : bytesN M.L ≤ 1000000000) (hroom : 0 ≤ M.room ∧ M.room ≤ 10000000) :
  Calls Tryz.prog 35 #[.pointer (some ⟨b, 0, none⟩), .string s, .string u] w fun e w' => e = .returned (.int .i64 (addS s.data.toList u.data.toList M).1) ∧ ProgTo n₀ w w' b (addS s.data.toList u.data.toList M).2 F := by
 have HP := Lib.hid h
 obtain ⟨⟨mv, t, hb, ht, h64, hf⟩, hlow, hbF, hFw⟩ := h
 have B2 := Lib.hid ((((Bel.refl w).alloc (.cells #[.pointer (some ⟨b, 0, none⟩)] 55)).alloc (.cells #[.string s] 9)).alloc (.cells #[.string u] 9))
 have hus : u.data.toList.length = u.size := rfl
 obtain ⟨adm, hadm⟩ : ∃ adm, adm = admS s.data.toList u.size M := ⟨_, rfl⟩
 have HAD := Lib.hid (fun x (hx : Bel w x) => hadm ▸ admits_any n₀ x b M F s u.size (HP.out.bel hx) hs hu hS hB hL hroom)
 have hsm := Lib.hid (show s.size ≤ maxLen by unfold maxLen; omega)
 have HH := Lib.hid (show Hdr w b M mv t from ⟨hb, ht, h64⟩)
 have HS := Lib.hid hS
 have HBN := Lib.hid hB
 have HFW := Lib.hid hFw
 have HFA := Lib.hid hf
 have hbw : b < w.heap.size := (hFw b hbF).2
 clear hb hf hFw ht h64 hS
 by_cases ha : adm = 0
 ·have HA := Lib.hid (show addS s.data.toList u.data.toList M = chgS M (insS (addF s.data.toList u.data.toList M.L) M.L) by unfold addS; rw [hus, ← hadm, if_pos ha])
  subst ha
  clear hadm
  go_enter Tryz.func35, Tryz.ntmps35
  go_wp2_with (fail)
  refine (HAD.out _ B2.out).mono ?_
  rintro e w2 ⟨rfl, hb1⟩
  have HB2 := Lib.hid (B2.out.trans hb1)
  have hz2 : w.heap.size + 2 < w2.heap.size := by have := hb1.size; simp at this; omega
  have m0 : w2.cell? ⟨w.heap.size, 0, none⟩ = some (.pointer (some ⟨b, 0, none⟩)) := cell_later hb1 (by go_simp)
  have m1 : w2.cell? ⟨w.heap.size + 1, 0, none⟩ = some (.string s) := cell_later hb1 (by go_simp)
  have m2 : w2.cell? ⟨w.heap.size + 2, 0, none⟩ = some (.string u) := cell_later hb1 (by go_simp)
  clear hb1
  go_wp2_with (fail)
  refine (pturn_any w2 b M mv t _ _ (HH.out.keep (Keep.of_bel HB2.out []) (by simp)) (fun z => ProgTo n₀ w z b { (turnS M).2 with L := insS (addF s.data.toList u.data.toList M.L) M.L } F) (run_enter Tryz.func62 (by kernel_rfl) rfl _) ?_).mono ?_
  ·intro w3 t3 hdr hk
   have nf : w.heap.size ∉ F ∧ w.heap.size + 1 ∉ F ∧ w.heap.size + 2 ∉ F := by
    refine ⟨fun h => ?_, fun h => ?_, fun h => ?_⟩ <;> have := (HFW.out _ h).2 <;> omega
   have q0 := hk.cell m0 (by simp; omega)
   have q1 := hk.cell m1 (by simp; omega)
   have q2 := hk.cell m2 (by simp; omega)
   have hn0 : n₀ ≤ w3.heap.size := Nat.le_trans (le_sz HP.out) (Nat.le_trans HB2.out.size hk.size)
   have KF := (Keep.of_bel HB2.out F).trans (hk.mono (G := F) (fun x hx => by rw [List.mem_singleton] at hx; rw [hx]; exact hbF)) (fun x hx => Or.inl hx)
   have fin : ∀ w4, Added n₀ w3 w4 b (turnS M).2 t3 (insS (addF s.data.toList u.data.toList (turnS M).2.L) (turnS M).2.L) F → ProgTo n₀ w w4 b { (turnS M).2 with L := insS (addF s.data.toList u.data.toList M.L) M.L } F := by
    intro w4 hc
    rw [turn_L] at hc
    exact prog_of_added hlow hbF HFW.out (le_sz HP.out) KF hc
   rcases HFA.out with ⟨rfl, hL0⟩ | ⟨mb, D, V, rfl, hV, hmF, hvF⟩
   ·refine (addcl_nil n₀ w3 b (turnS M).2 t3 F w.heap.size (w.heap.size + 1) (w.heap.size + 2) s u hdr (by rw [turn_L]; exact hL0) (by rw [turn_L]; exact HS.out) (by rw [turn_L]; exact hL) hbF hn0 hsm.out hu q0 q1 q2 nf).mono ?_
    rintro e w4 ⟨rfl, hc⟩
    exact ⟨rfl, fin w4 hc⟩
   ·have hne := HH.out.ne hV.own
    have hV3 : FilesV n₀ w3 mb D V (turnS M).2.L none := by
     rw [turn_L]
     exact (hV.bel HB2.out).keep hk (by simpa using fun e => hne e.symm) (fun u hu _ k hk1 hk2 => by
      rw [List.mem_singleton] at hk2
      subst hk2
      exact HH.out.ne_row (hV.val u hu (by simp)) (by rw [Option.mem_toList]; exact hk1))
    cases hy : getF s.data.toList M.L with
    | none =>
     refine (addcl_none n₀ w3 b (turnS M).2 t3 F mb D V w.heap.size (w.heap.size + 1) (w.heap.size + 2) s u hdr hV3 hmF (by rw [turn_L]; exact hvF) (by rw [turn_L]; exact HS.out) (by rw [turn_L]; exact hL) hbF hn0 hsm.out hu (by rw [turn_L]; exact hy) q0 q1 q2 nf).mono ?_
     rintro e w4 ⟨rfl, hc⟩
     exact ⟨rfl, fin w4 hc⟩
    | some y =>
     refine (addcl_some n₀ w3 b (turnS M).2 t3 F mb D V w.heap.size (w.heap.size + 1) (w.heap.size + 2) s u hdr hV3 hmF (by rw [turn_L]; exact hvF) (by rw [turn_L]; exact HS.out) (by rw [turn_L]; exact hL) hbF hn0 hsm.out hu y (by rw [turn_L]; exact hy) (Nat.le_trans (bytes_mem (getF_mem hy)) HBN.out) q0 q1 q2 nf).mono ?_
     rintro e w4 ⟨rfl, hc⟩
     exact ⟨rfl, fin w4 hc⟩
  ·rintro e w5 ⟨rfl, h0, h1⟩
   have R0 := Lib.hid h0
   have R1 := Lib.hid h1
   clear h0 h1
   go_wp2_with (fail)
   go_ret
   rw [HA.out]
   unfold chgS
   by_cases hT : M.turns = 0
   ·rw [if_pos hT]
    obtain ⟨r1, r2⟩ := R0.out hT
    exact ⟨ret_int (by rw [turnS_zero hT]), prog_of_hdr HP.out (fun mv' t' h' => ⟨t, by
     have e : mv' = mv := by
      have := h'.1.symm.trans HH.out.1
      simp at this
      exact this.1
     rw [e]; exact r1⟩) (turn_L M) ⟨w2, HB2.out, r2⟩⟩
   ·rw [if_neg hT]
    refine ⟨?_, R1.out hT⟩
    rcases Int.lt_or_gt_of_ne hT with h | h
    ·exact ret_int (by rw [turnS_neg h])
    ·exact ret_int (by rw [turnS_pos h])
 ·have HA := Lib.hid (show addS s.data.toList u.data.toList M = (adm, M) by unfold addS; rw [hus, ← hadm, if_neg ha])
  have ha2 : (adm == 0) = false := by rw [beq_eq_false_iff_ne]; exact ha
  clear hadm
  go_enter Tryz.func35, Tryz.ntmps35
  go_wp2_with (fail)
  refine (HAD.out _ B2.out).mono ?_
  rintro e w2 ⟨rfl, hb1⟩
  have HB2 := Lib.hid (B2.out.trans hb1)
  clear hb1
  have ha3 : (adm != 0) = true := by rw [bne_iff_ne]; exact ha
  go_wp2_with (fail)
  go_ret
  rw [HA.out]
  exact ⟨rfl, HP.out.to HB2.out⟩

def spb (x : UInt8) (s : Int) : UInt8 := UInt8.ofNat (x.toNat ^^^ (IntKind.u8.wrap s).toNat)
theorem wrap_mod (s : Int) : IntKind.u8.wrap s = s % 256 := by simp [IntKind.wrap, IntKind.signed, IntKind.bits]
theorem wrap_u8 (s : Int) : 0 ≤ IntKind.u8.wrap s ∧ IntKind.u8.wrap s < 256 := by
 have e : IntKind.u8.wrap s = s % 256 := by simp [IntKind.wrap, IntKind.signed, IntKind.bits]
 rw [e]; omega
theorem spb_bits (x : UInt8) (s : Int) : bits .xor .u8 (x.toNat : Int) (IntKind.u8.wrap s) = ((spb x s).toNat : Int) := by
 have h1 := wrap_u8 s
 have hx := x.toNat_lt
 have e : IntKind.u8.wrap s = ((IntKind.u8.wrap s).toNat : Int) := by omega
 have h3 : x.toNat ^^^ (IntKind.u8.wrap s).toNat < 256 := Nat.xor_lt_two_pow (n := 8) (by omega) (by omega)
 rw [e, u8_xor_nat _ _ x.toNat_lt (by omega)]
 unfold spb
 rw [UInt8.toNat_ofNat']
 rw [Nat.mod_eq_of_lt (by omega)]
def leftN (l : Int) (k : Nat) : Nat := (min (max l 0) (k : Int)).toNat
def crX (l s : Int) (x : FI) : FI :=
 ⟨x.name, if leftN l (x.bytes.length - x.safe) = 0 then x.bytes.take (x.safe + leftN l (x.bytes.length - x.safe)) else
  (x.bytes.take (x.safe + leftN l (x.bytes.length - x.safe))).set (x.safe + leftN l (x.bytes.length - x.safe) - 1) (spb (x.bytes.getD (x.safe + leftN l (x.bytes.length - x.safe) - 1) 0) s), x.safe + leftN l (x.bytes.length - x.safe)⟩

theorem own_set {B : Nat} {w : World} {g n cap : Nat} {l : List UInt8} (h : Own B w (.slice (some ⟨g, 0, none⟩) n cap) l) (i : Nat) (hi : i < n) (b : UInt8) : Own B (w.setCell ⟨g, i, none⟩ (.int .u8 b.toNat)) (.slice (some ⟨g, 0, none⟩) n cap) (l.set i b) := by
 obtain ⟨h1, h2⟩ := h
 rcases h2 with ⟨hv, h0⟩ | ⟨g', cap', cur, hv, hg, hh, hc, hx, hsz, htk⟩
 ·cases hv
 ·simp only [Value.slice.injEq, Option.some.injEq, Addr.mk.injEq, and_true] at hv
  obtain ⟨rfl, hn, rfl⟩ := hv
  refine ⟨by rw [Lib.byteCells_length, Nat.mul_one], Or.inr ⟨g, cap, cur.setIfInBounds i (.int .u8 b.toNat), by rw [List.length_set, hn], hg, blk_set hh i _, by rw [List.length_set]; exact hc, hx, by simpa using hsz, ?_⟩⟩
  have e : Lib.byteCells (l.set i b) = (Lib.byteCells l).set i (.int .u8 b.toNat) := by simp [Lib.byteCells, List.map_set]
  rw [e, ← htk]
  simp [List.take_set]
theorem own_cell {B : Nat} {w : World} {g n cap : Nat} {l : List UInt8} (h : Own B w (.slice (some ⟨g, 0, none⟩) n cap) l) (i : Nat) (hi : i < n) : w.cell? ⟨g, i, none⟩ = some (.int .u8 (l.getD i 0).toNat) := by
 have hn : n = l.length := by
  obtain ⟨p, c, e, -⟩ := own_len h
  simp only [Value.slice.injEq] at e
  exact e.2.1
 have := World.ownsRow.cells h (g := g) rfl i (.int .u8 (l.getD i 0).toNat) (by
  simp [Lib.byteCells, List.getD, show i < l.length by omega])
 have e : (⟨g, 0, none⟩ : Addr).add i = ⟨g, i, none⟩ := by cases i <;> simp [Addr.add]
 rwa [e] at this
theorem own_free {B : Nat} {w : World} {g n cap : Nat} {l : List UInt8} (h : Own B w (.slice (some ⟨g, 0, none⟩) n cap) l) (i : Nat) : w.frozen? ⟨g, i, none⟩ = false := by
 rcases h.2 with ⟨hv, h0⟩ | ⟨g', cap', cur, hv, hg, hh, _⟩
 ·cases hv
 ·simp only [Value.slice.injEq, Option.some.injEq, Addr.mk.injEq, and_true] at hv
  obtain ⟨rfl, _, _⟩ := hv
  simp [World.frozen?, hh]

set_option maxHeartbeats 1000000 in
theorem crashed_any (B : Nat) (w : World) (p : Option Addr) (n cap f : Nat) (l : List UInt8) (q s : Int) (h : Own B w (.slice p n cap) l) (hf : f ≤ n) (hn : n ≤ 1000000000) (hq : in64 q) :
  Calls Tryz.prog 56 #[.agg #[.slice p n cap, .int .i64 f], .int .i64 q, .int .i64 s] w fun e w' =>
   e = .returned (.agg #[.slice p (f + leftN q (n - f)) cap, .int .i64 (f + leftN q (n - f) : Nat)]) ∧
   Own B w' (.slice p (f + leftN q (n - f)) cap) (if leftN q (n - f) = 0 then l.take (f + leftN q (n - f)) else (l.take (f + leftN q (n - f))).set (f + leftN q (n - f) - 1) (spb (l.getD (f + leftN q (n - f) - 1) 0) s)) ∧ Keep (Value.slice p n cap).ownBlock.toList w w' := by
 obtain ⟨hp1, hp2, hp3, hp4⟩ := own_shape h
 obtain ⟨t, ht⟩ : ∃ t, t = leftN q (n - f) := ⟨_, rfl⟩
 rw [← ht]
 have hmm : min (max q 0) ((n : Int) - (f : Int)) = (t : Int) := by rw [ht]; unfold leftN; omega
 have htn : f + t ≤ n := by omega
 have HF := fun x => first_any x p n cap f (f + t) htn hp1 hp2 hp3 hp4
 rw [show min f (f + t) = f by omega] at HF
 simp only [Int.natCast_add] at HF
 replace HF := Lib.hid HF
 have HO := Lib.hid h
 have hln : n = l.length := by
  obtain ⟨p', c, e, -⟩ := own_len h
  simp only [Value.slice.injEq] at e
  exact e.2.1
 have HLN := Lib.hid hln
 have W2 := Lib.hid (((Bel.refl w).alloc (.cells #[.slice p n cap, .int .i64 f] 116)).alloc (.cells #[.slice none 0 0, .int .i64 0] 116))
 have hB1 : B ≤ w.heap.size ∨ True := Or.inr trivial
 by_cases h0 : t = 0
 ·rw [if_pos h0]
  have ht0 : ¬ (0 < (t : Int)) := by omega
  have H0 := Lib.hid h0
  clear ht h hp1 hp2 hp3 hp4 hln h0 hB1
  go_enter Tryz.func56, Tryz.ntmps56
  go_wp2_with (fail)
  refine (HF.out _).mono ?_
  rintro e w1 ⟨rfl, hb1⟩
  have HB := Lib.hid (W2.out.trans hb1)
  have hz : w.heap.size + 1 < w1.heap.size := by have := hb1.size; simp at this; omega
  have q0 : w1.cell? ⟨w.heap.size + 1, 0, none⟩ = some (.slice none 0 0) := cell_later hb1 (by go_simp)
  have q1 : w1.cell? ⟨w.heap.size + 1, 1, none⟩ = some (.int .i64 0) := cell_later hb1 (by go_simp)
  have qf : ∀ i, w1.frozen? ⟨w.heap.size + 1, i, none⟩ = false := fun i => (hb1.frozen _ _ (by simp)).trans (by simp)
  clear hb1
  go_wp2_with (fail)
  refine (saved_any _ p (f + t) cap f).mono ?_
  rintro e w2 ⟨rfl, hb2⟩
  have HB2 := Lib.hid (HB.out.trans (((Bel.refl w1).alloc (.cells #[.slice p (f + t) cap, .int .i64 f] 116)).trans hb2))
  have r0 : w2.cell? ⟨w.heap.size + 1, 0, none⟩ = some (.slice none 0 0) := cell_later hb2 (cell_later ((Bel.refl w1).alloc _) q0)
  have r1 : w2.cell? ⟨w.heap.size + 1, 1, none⟩ = some (.int .i64 0) := cell_later hb2 (cell_later ((Bel.refl w1).alloc _) q1)
  have rf : ∀ i, w2.frozen? ⟨w.heap.size + 1, i, none⟩ = false := fun i => (hb2.frozen _ _ (by simp; omega)).trans ((((Bel.refl w1).alloc _).frozen _ _ hz).trans (qf i))
  clear hb2
  go_wp2_with (fail)
  have hval := (own_first HO.out (f + t) htn).bel HB2.out
  have hlow : w.heap.size + 1 ∉ (Value.slice p (f + t) cap).ownBlock.toList := own_old (own_first HO.out (f + t) htn) (Nat.le_succ _)
  have hkk : Keep [w.heap.size + 1] w2 ((w2.setCell ⟨w.heap.size + 1, 0, none⟩ (.slice p (f + t) cap)).setCell ⟨w.heap.size + 1, 1, none⟩ (.int .i64 ((f : Int) + (t : Int)))) :=
   ((Keep.refl _ w2).setCell (p := ⟨w.heap.size + 1, 0, none⟩) (Or.inl (by simp)) _).setCell (p := ⟨w.heap.size + 1, 1, none⟩) (Or.inl (by simp)) _
  exact bodyPost_ret (v := .agg #[.slice p (f + t) cap, .int .i64 ((f : Int) + (t : Int))]) (by simp [results, Tryz.results56, go_sem, r0, r1, World.cell?_setCell_other]) rfl ⟨rfl, hval.keep hkk (fun k h1 h2 => by
    rw [List.mem_singleton] at h2
    subst h2
    exact hlow (by rw [Option.mem_toList]; exact h1)),
   ((Keep.of_bel HB2.out _).setCell (p := ⟨w.heap.size + 1, 0, none⟩) (Or.inr (by simp)) _).setCell (p := ⟨w.heap.size + 1, 1, none⟩) (Or.inr (by simp)) _⟩
 ·rw [if_neg h0]
  have ht0 : 0 < (t : Int) := by omega
  clear ht hln hB1
  cases p with
  | none => have := (hp4 rfl).1; omega
  | some ad =>
  have := hp3 ad rfl
  generalize ad.block = g at this
  subst this
  clear hp1 hp2 hp3 hp4 h
  obtain ⟨i, hi⟩ : ∃ i, f + t = i + 1 := ⟨f + t - 1, by omega⟩
  have hidx : (f : Int) + (t : Int) - 1 = (i : Int) := by omega
  have hgw : g < w.heap.size := (HO.out.lt g rfl).2
  obtain ⟨bx, hbx⟩ : ∃ bx, bx = l.getD i 0 := ⟨_, rfl⟩
  have HBX := Lib.hid hbx
  have hx : bits .xor .u8 (bx.toNat : Int) (s % 256) = ((spb bx s).toNat : Int) := by rw [← spb_bits, wrap_mod]
  have HI := Lib.hid hi
  have hib : i < f + t := by omega
  have hin : (i : Int) < (f : Int) + (t : Int) := by omega
  clear hi h0
  go_enter Tryz.func56, Tryz.ntmps56
  go_wp2_with (fail)
  refine (HF.out _).mono ?_
  rintro e w1 ⟨rfl, hb1⟩
  have HB := Lib.hid (W2.out.trans hb1)
  have hz : w.heap.size + 1 < w1.heap.size := by have := hb1.size; simp at this; omega
  have q0 : w1.cell? ⟨w.heap.size + 1, 0, none⟩ = some (.slice none 0 0) := cell_later hb1 (by go_simp)
  have q1 : w1.cell? ⟨w.heap.size + 1, 1, none⟩ = some (.int .i64 0) := cell_later hb1 (by go_simp)
  have qf : ∀ i, w1.frozen? ⟨w.heap.size + 1, i, none⟩ = false := fun i => (hb1.frozen _ _ (by simp)).trans (by simp)
  have d0 : w1.cell? ⟨g, i, none⟩ = some (.int .u8 bx.toNat) := by rw [hbx]; exact cell_later HB.out (own_cell HO.out i (by omega))
  have df : w1.frozen? ⟨g, i, none⟩ = false := (HB.out.frozen _ _ hgw).trans (own_free HO.out i)
  have hg1 : g < w1.heap.size := by omega
  clear hb1 hbx
  go_wp2_with (fail)
  refine (saved_any _ (some ⟨g, 0, none⟩) (f + t) cap f).mono ?_
  rintro e w2 ⟨rfl, hb2⟩
  obtain ⟨x2, hx2⟩ : ∃ x2, x2 = w1.setCell ⟨g, i, none⟩ (.int .u8 (spb bx s).toNat) := ⟨_, rfl⟩
  rw [← hx2] at hb2
  have hb3 : Bel x2 w2 := ((Bel.refl x2).alloc _).trans hb2
  have K2 : Keep [g] w1 x2 := by rw [hx2]; exact keep_set w1 g i _
  have hx2s : x2.heap.size = w1.heap.size := by rw [hx2]; simp [World.setCell]
  have HK2 := Lib.hid (((Keep.of_bel HB.out [g]).trans K2 (fun x hx => Or.inl hx)).trans (Keep.of_bel hb3 [g]) (fun x hx => Or.inl hx))
  have HV2 := Lib.hid (show Own B w2 (.slice (some ⟨g, 0, none⟩) (f + t) cap) ((l.take (f + t)).set i (spb bx s)) by
   refine Own.bel ?_ hb3
   rw [hx2]
   exact own_set ((own_first HO.out (f + t) htn).bel HB.out) i hib _)
  have r0 : w2.cell? ⟨w.heap.size + 1, 0, none⟩ = some (.slice none 0 0) := cell_later hb3 (K2.cell q0 (by simp; omega))
  have r1 : w2.cell? ⟨w.heap.size + 1, 1, none⟩ = some (.int .i64 0) := cell_later hb3 (K2.cell q1 (by simp; omega))
  have rf : ∀ i, w2.frozen? ⟨w.heap.size + 1, i, none⟩ = false := fun i => (hb3.frozen _ _ (by omega)).trans ((K2.frozen (p := ⟨w.heap.size + 1, i, none⟩) hz (by simp; omega)).trans (qf i))
  clear hb2 hb3 K2 hx2 hx2s
  go_wp2_with (fail)
  have hlow : w.heap.size + 1 ∉ (Value.slice (some ⟨g, 0, none⟩) (f + t) cap).ownBlock.toList := own_old (own_first HO.out (f + t) htn) (Nat.le_succ _)
  have hkk : Keep [w.heap.size + 1] w2 ((w2.setCell ⟨w.heap.size + 1, 0, none⟩ (.slice (some ⟨g, 0, none⟩) (f + t) cap)).setCell ⟨w.heap.size + 1, 1, none⟩ (.int .i64 ((f : Int) + (t : Int)))) :=
   ((Keep.refl _ w2).setCell (p := ⟨w.heap.size + 1, 0, none⟩) (Or.inl (by simp)) _).setCell (p := ⟨w.heap.size + 1, 1, none⟩) (Or.inl (by simp)) _
  have hii : f + t - 1 = i := by have := HI.out; omega
  rw [hii, ← HBX.out]
  exact bodyPost_ret (v := .agg #[.slice (some ⟨g, 0, none⟩) (f + t) cap, .int .i64 ((f : Int) + (t : Int))]) (by simp [results, Tryz.results56, go_sem, r0, r1, World.cell?_setCell_other]) rfl ⟨rfl, HV2.out.keep hkk (fun k h1 h2 => by
    rw [List.mem_singleton] at h2
    subst h2
    exact hlow (by rw [Option.mem_toList]; exact h1)),
   (((HK2.out.mono (by simp [Value.ownBlock])).setCell (p := ⟨w.heap.size + 1, 0, none⟩) (Or.inr (by simp)) _).setCell (p := ⟨w.heap.size + 1, 1, none⟩) (Or.inr (by simp)) _)⟩

def crashF (lf sp : List Int) : Nat → List FI → List FI
 | _, [] => []
 | k, x :: L => if x.safe = x.bytes.length then x :: crashF lf sp k L else crX (atN lf k) (atN sp k) x :: crashF lf sp (k + 1) L
def onM (M : RS) : RS := { M with turns := -1, gone := false }
def crashS (lf sp : List Int) (M : RS) : RS := { onM M with L := crashF lf sp 0 M.L }
theorem IntsAt.keep {w x : World} {p : Option Addr} {L : List Int} {G : List Nat} (h : IntsAt w p L) (hk : Keep G w x) (hb : ∀ a, p = some a → L ≠ [] → a.block ∉ G) : IntsAt x p L := by
 intro i hi
 obtain ⟨a, ha, hc⟩ := h i hi
 exact ⟨a, ha, hk.cell hc (by rw [add_block]; exact hb a ha (by rintro rfl; simp at hi))⟩
theorem srt_names {L K : List FI} (h : L.map (·.name) = K.map (·.name)) (hs : Srt L) : Srt K := by
 have e : ∀ {L : List FI}, Srt L ↔ (L.map (·.name)).Pairwise (fun a b => Op.bytesLess a b = true) := by intro L; rw [Srt, List.pairwise_map]
 rw [e] at hs ⊢
 rw [← h]; exact hs
theorem ins_at {x y : FI} {B : List FI} : ∀ {A : List FI}, Srt (A ++ x :: B) → y.name = x.name → insS y (A ++ x :: B) = A ++ y :: B
 | [], hs, hn => by rw [List.nil_append, ins_cons, hn, bl_irrefl]; simp
 | a :: A, hs, hn => by
  rw [List.cons_append] at hs
  have h2 := srt_cons.1 hs
  have : Op.bytesLess a.name y.name = true := by rw [hn]; exact h2.1 x (by simp)
  rw [List.cons_append, ins_cons, if_pos this, ins_at h2.2 hn, List.cons_append]
theorem at_in64 {L : List Int} (h : ∀ n ∈ L, in64 n) (k : Nat) : in64 (atN L k) := by
 unfold atN
 cases hk : L[k]? with
 | none => exact ⟨by decide, by decide⟩
 | some a => exact h a (List.mem_of_getElem? hk)
theorem crX_name (l s : Int) (x : FI) : (crX l s x).name = x.name := rfl
def CrRel (n₀ : Nat) (w2 : World) (b : Nat) (M : RS) (mv : Value) (t : Int) (F : List Nat) (lf sp : List Int) (k i : Value) (x : World) : Prop :=
 ∃ (j kk : Nat) (dn : List FI), i = .int .i64 j ∧ k = .int .i64 kk ∧ j ≤ M.L.length ∧ kk ≤ j ∧ crashF lf sp 0 M.L = dn ++ crashF lf sp kk (M.L.drop j) ∧ (dn ++ M.L.drop j).map (·.name) = M.L.map (·.name) ∧ dn.length = j ∧
  Hdr x b (onM M) mv t ∧ FilesAt n₀ x mv (dn ++ M.L.drop j) F ∧ Keep F w2 x

set_option maxHeartbeats 4000000 in
set_option maxRecDepth 20000 in
theorem pcrash_any (n₀ : Nat) (w : World) (b : Nat) (M : RS) (F : List Nat) (lf sp : SI) (h : ProgAt n₀ w b M F) (hS : Srt M.L) (hL : M.L.length ≤ 1000) (hB : ∀ x ∈ M.L, x.bytes.length ≤ 1000000000 ∧ x.safe ≤ x.bytes.length ∧ x.name.length ≤ 1000)
  (hlf : SI.ok w lf) (hsp : SI.ok w sp) (nl : ∀ a, lf.p = some a → lf.L ≠ [] → a.block ∉ F) (ns : ∀ a, sp.p = some a → sp.L ≠ [] → a.block ∉ F) :
  Calls Tryz.prog 31 #[.pointer (some ⟨b, 0, none⟩), lf.val, sp.val] w fun e w' => (∃ u, e = .returned u) ∧ ProgTo n₀ w w' b (crashS lf.L sp.L M) F := by
 have HP := Lib.hid h
 obtain ⟨⟨mv, t, hb, ht, h64, hf⟩, hlow, hbF, hFw⟩ := h
 have c2 : w.cell? ⟨b, 2, none⟩ = some (.bool (decide (0 ≤ M.turns))) := by simp [World.cell?, hb]
 have c4 : w.cell? ⟨b, 4, none⟩ = some (.bool M.gone) := by simp [World.cell?, hb]
 have f2 : w.frozen? ⟨b, 2, none⟩ = false := by simp [World.frozen?, hb]
 have f4 : w.frozen? ⟨b, 4, none⟩ = false := by simp [World.frozen?, hb]
 have HH := Lib.hid (show Hdr w b M mv t from ⟨hb, ht, h64⟩)
 have HS := Lib.hid hS
 have HBD := Lib.hid hB
 have HFW := Lib.hid hFw
 have HFA := Lib.hid hf
 have HLF := Lib.hid hlf
 have HSP := Lib.hid hsp
 have HNL := Lib.hid nl
 have HNS := Lib.hid ns
 have hbw : b < w.heap.size := (hFw b hbF).2
 clear hb hf hFw ht hS hB hlf hsp nl ns
 unfold SI.val
 go_enter Tryz.func31, Tryz.ntmps31
 go_wp2_with (fail)
 obtain ⟨w1, hw1⟩ : ∃ w1, w1 = (w.setCell ⟨b, 4, none⟩ (.bool false)).setCell ⟨b, 2, none⟩ (.bool false) := ⟨_, rfl⟩
 rw [← hw1]
 have hK1 : Keep [b] w w1 := by
  rw [hw1]
  exact ((Keep.refl _ w).setCell (p := ⟨b, 4, none⟩) (Or.inl (by simp)) _).setCell (p := ⟨b, 2, none⟩) (Or.inl (by simp)) _
 have hH1 : Hdr w1 b (onM M) mv t := by
  rw [hw1]
  exact ⟨by rw [blk_set (blk_set HH.out.1 4 _) 2 _]; rfl, fun h => by simp [onM] at h, HH.out.2.2⟩
 have hP1 : ProgTo n₀ w w1 b (onM M) F := HP.out.set2 (M' := onM M) (fun mv' t' h1 h2 h3 => ⟨t', by rw [hw1, blk_set (blk_set h1 4 _) 2 _]; rfl, fun h => by simp [onM] at h, h3⟩) rfl hK1
 have hF1 : FilesAt n₀ w1 mv M.L F := by
  rcases HFA.out with hf | ⟨mb, D, V, rfl, hV, hmF, hvF⟩
  ·exact Or.inl hf
  ·refine Or.inr ⟨mb, D, V, rfl, hV.keep hK1 (by have := HH.out.ne hV.own; simpa using fun e => this e.symm) (fun y hy _ k hk1 hk2 => ?_), hmF, hvF⟩
   rw [List.mem_singleton] at hk2
   subst hk2
   exact HH.out.ne_row (hV.val y hy (by simp)) (by rw [Option.mem_toList]; exact hk1)
 have hPA1 : ProgAt n₀ w1 b (onM M) F := ⟨⟨mv, t, hH1.1, hH1.2.1, hH1.2.2, hF1⟩, hlow, hbF, fun k hk => ⟨(HFW.out k hk).1, Nat.lt_of_lt_of_le (HFW.out k hk).2 hK1.size⟩⟩
 have KF1 := Lib.hid (hK1.mono (G := F) (fun x hx => by rw [List.mem_singleton] at hx; rw [hx]; exact hbF))
 have HH1 := Lib.hid hH1
 have HF1 := Lib.hid hF1
 have HPA1 := Lib.hid hPA1
 have HX1 := Lib.hid hw1
 clear hw1 hK1 hH1 hP1 hF1 hPA1 c2 c4 f2 f4
 refine (pnames_any n₀ w1 b (onM M) F HPA1.out HS.out hL).mono ?_
 rintro e w2 ⟨v, rfl, hnm, hb2⟩
 change OwnG strEl w1.heap.size w2 v (M.L.map (·.name)) at hnm
 have HB2 := Lib.hid hb2
 have HNM := Lib.hid hnm
 obtain ⟨np, ncap, hnv⟩ := ownG_len hnm
 rw [List.length_map] at hnv
 subst hnv
 have KF2 := Lib.hid (KF1.out.then hb2)
 clear hnm hb2
 go_wp2_with (fail)
 go_loopw [6, 19] (fun k i x => CrRel n₀ w2 b M mv t F lf.L sp.L k i x) (fun _ i _ => M.L.length - (intOf i).toNat)
 case atStart => exact ⟨0, 0, [], rfl, rfl, Nat.zero_le _, Nat.le_refl _, by simp, by simp, rfl, HH1.out.keep (Keep.of_bel HB2.out []) (by simp), by simpa using HF1.out.bel HB2.out, Keep.refl _ _⟩
 case round =>
  obtain ⟨j, kk, dn, rfl, rfl, hj, hkj, hcr, hnms, hdl, hhd, hfs, hkp⟩ := hrel
  have HCR := Lib.hid hcr
  have HNS2 := Lib.hid hnms
  have HDL := Lib.hid hdl
  have HHD := Lib.hid hhd
  have HFS := Lib.hid hfs
  have HKP := Lib.hid hkp
  clear hcr hnms hdl hhd hfs hkp
  by_cases hlt : j < M.L.length
  ·have hne : M.L.map (·.name) ≠ [] := by intro e; rw [List.map_eq_nil_iff] at e; rw [e] at hlt; simp at hlt
   have hnF : ∀ k, (Value.slice np (M.L.map (·.name)).length ncap).ownBlock = some k → k ∉ F := fun k hk hk2 => by
    have h1 := (HNM.out.lt k (by rw [List.length_map] at hk; exact hk)).1
    have h2 := (HFW.out k hk2).2
    have h3 := KF1.out.size
    omega
   have hnm2 := HNM.out.keep HKP.out (fun k hk => hnF k (by rw [List.length_map]; exact hk))
   obtain ⟨g, ncap', hv, _, hgl, _, hcs⟩ := ownG_cells strOk hnm2 hne
   rw [List.length_map] at hv
   simp only [Value.slice.injEq, true_and] at hv
   obtain ⟨rfl, rfl⟩ := hv
   obtain ⟨y, hy⟩ : ∃ y, y = M.L[j] := ⟨_, rfl⟩
   have d0 := hcs j M.L[j].name (by rw [List.getElem?_map, List.getElem?_eq_getElem hlt]; rfl) 0 _ rfl
   rw [← hy] at d0
   have HBY := Lib.hid (HBD.out M.L[j] (List.getElem_mem hlt))
   rw [← hy] at HBY
   have hdrop : M.L.drop j = y :: M.L.drop (j + 1) := by rw [hy]; exact List.drop_eq_getElem_cons hlt
   have HDR := Lib.hid hdrop
   rw [hdrop] at HFS HCR HNS2
   have HS2 := Lib.hid (srt_names HNS2.out.symm HS.out)
   have hym : y ∈ dn ++ y :: M.L.drop (j + 1) := by simp
   have hgy := getF_of_mem HS2.out hym
   rcases HFS.out with ⟨_, h0⟩ | ⟨mb, D, V, hmv, hV, hmF, hvF⟩
   ·simp at h0
   subst hmv
   obtain ⟨p, cap, hp, -⟩ := own_len (hV.val y hym (by simp))
   have HV := Lib.hid hV
   have HGY := Lib.hid hgy
   have HPV := Lib.hid hp
   have HMF := Lib.hid hmF
   have HVF := Lib.hid hvF
   obtain ⟨hb1, hb2, hb3⟩ := HBY.out
   have hsz : (⟨y.name.toArray⟩ : ByteArray).size ≤ maxLen := by show y.name.toArray.size ≤ _; rw [List.size_toArray]; unfold maxLen; omega
   have hnmL : (⟨y.name.toArray⟩ : ByteArray).data.toList = y.name := by simp
   have HLK := Lib.hid (fun z (hz : Bel wr z) => run_look_some (hV.bel hz) ⟨y.name.toArray⟩ hsz (by rw [hnmL]; exact hgy) false)
   rw [hnmL, hp] at HLK
   have c1 : wr.cell? ⟨b, 1, none⟩ = some (.map (some mb)) := by simp [World.cell?, HHD.out.1]
   have hbx : b < wr.heap.size := block_lt_of_cell c1
   have HMEM := Lib.hid hym
   have hsz2 := Lib.hid hsz
   have HNML := Lib.hid hnmL
   have hjk : kk ≤ 1000000 := by omega
   simp only [strEl, Nat.mul_one, Nat.add_zero] at d0
   clear hcs hnm2 hne hnF hy hdrop hym hgy hV hp hmF hvF hnmL hsz
   by_cases hsv : y.safe = y.bytes.length
   ·have hbe : ((y.safe : Int) == (y.bytes.length : Int)) = true := by rw [beq_iff_eq, hsv]
    have HSV := Lib.hid hsv
    clear hsv
    go_wp2_with (at_lookup; refine wpList_look (HLK.out _ (Bel.refl _)) rfl _ _ rfl rfl rfl ?_; unfold conV)
    refine (issaved_any _ p y.bytes.length cap y.safe).mono ?_
    rintro e w3 ⟨rfl, hb4⟩
    rw [hbe]
    have HB4 := Lib.hid (((Bel.refl wr).alloc _).trans hb4)
    clear hb4 hbe
    go_wp2_with (fail)
    go_roundw
    case rel =>
     refine ⟨j + 1, kk, dn ++ [y], by go_num, rfl, by omega, by omega, ?_, by simpa using HNS2.out, by simp [HDL.out], HHD.out.keep (Keep.of_bel HB4.out []) (by simp), ?_, HKP.out.then HB4.out⟩
     ·rw [HCR.out, crashF, if_pos HSV.out]; simp
     ·have := HFS.out.bel HB4.out
      simpa using this
    case measure => simp [intOf]; omega
   ·have hbe : ((y.safe : Int) == (y.bytes.length : Int)) = false := by rw [beq_eq_false_iff_ne]; omega
    have HSV := Lib.hid hsv
    clear hsv
    go_wp2_with (at_lookup; refine wpList_look (HLK.out _ (Bel.refl _)) rfl _ _ rfl rfl rfl ?_; unfold conV)
    refine (issaved_any _ p y.bytes.length cap y.safe).mono ?_
    rintro e w3 ⟨rfl, hb4⟩
    rw [hbe]
    have HB4 := Lib.hid (((Bel.refl wr).alloc _).trans hb4)
    have e0 : w3.cell? ⟨wr.heap.size, 0, none⟩ = some (.slice p y.bytes.length cap) := cell_later hb4 (by go_simp)
    have e1 : w3.cell? ⟨wr.heap.size, 1, none⟩ = some (.int .i64 y.safe) := cell_later hb4 (by go_simp)
    have e4 : w3.cell? ⟨b, 1, none⟩ = some (.map (some mb)) := cell_later HB4.out c1
    clear hb4 hbe
    go_wp2_with (fail)
    have KW3 := Lib.hid ((KF2.out.trans HKP.out (fun x hx => Or.inl hx)).then HB4.out)
    have hil := HLF.out.1.keep KW3.out HNL.out
    have his := HSP.out.1.keep KW3.out HNS.out
    have HIlf := Lib.hid (fun z (hz : Bel w3 z) => hil.bel hz)
    have HIsp := Lib.hid (fun z (hz : Bel w3 z) => his.bel hz)
    have Llf := Lib.hid HLF.out.2.1
    have Lsp := Lib.hid HSP.out.2.1
    have HAQ := Lib.hid (at_in64 HLF.out.2.2 kk)
    have HOW := Lib.hid (show Own n₀ wr (.slice p y.bytes.length cap) y.bytes from HPV.out ▸ HV.out.val y HMEM.out (by simp))
    have HQ9 := Lib.hid (own_old HOW.out (Nat.le_refl _))
    have HQB := Lib.hid (HHD.out.ne_row HOW.out)
    have HRF := Lib.hid (show ∀ k ∈ (Value.slice p y.bytes.length cap).ownBlock.toList, k ∈ F from fun k hk => HVF.out y HMEM.out k (by rw [HPV.out]; rwa [Option.mem_toList] at hk))
    have NB9 : wr.heap.size ≠ mb := by have := HV.out.lt; omega
    have N4 := HHD.out.ne HV.out.own
    have HLEN := Lib.hid (show (dn ++ y :: M.L.drop (j + 1)).length ≤ 1000000 by have := congrArg List.length HNS2.out; simp only [List.length_map] at this; omega)
    have D0 := (Bel.refl w3).drew
    clear hil his
    refine wp_region_held_drew (S := fun z => (z.cell? ⟨wr.heap.size, 0, none⟩ = some (.slice p y.bytes.length cap) ∧ z.cell? ⟨wr.heap.size, 1, none⟩ = some (.int .i64 y.safe) ∧ z.cell? ⟨b, 1, none⟩ = some (.map (some mb)))) (by kernel_rfl) ⟨e0, e1, e4⟩ (fun hHeld => ?_)
    refine tq ⟨some 32, .move (.tmp 0), 55, "file.go:161", #[], none⟩ ?_ 0 rfl ?_ ?_;rotate_left;·(intros;go_simp<;>with_reducible rfl)
    try simp only[Act.put,sqA,sqB,sqC]
    refine tq ⟨some 33, .nilCheck (.tmp 32), 0, "file.go:161", #[⟨0, .data⟩], none⟩ ?_ 1 rfl ?_ ?_;rotate_left;·(intros;go_simp<;>with_reducible rfl)
    try simp only[Act.put,sqA,sqB,sqC]
    refine tq ⟨some 34, .fieldAddr 113 (.tmp 33) 1, 0, "file.go:161", #[⟨1, .data⟩], none⟩ ?_ 2 rfl ?_ ?_;rotate_left;·(intros;go_simp<;>with_reducible rfl)
    try simp only[Act.put,sqA,sqB,sqC]
    refine tq ⟨some 35, .load 111 (.tmp 34), 111, "file.go:161", #[⟨2, .data⟩], none⟩ ?_ 3 rfl ?_ ?_;rotate_left;·(intros;go_simp<;>with_reducible rfl)
    try simp only[Act.put,sqA,sqB,sqC]
    refine tq ⟨some 36, .move (.tmp 8), 9, "file.go:161", #[], none⟩ ?_ 4 rfl ?_ ?_;rotate_left;·(intros;go_simp<;>with_reducible rfl)
    try simp only[Act.put,sqA,sqB,sqC]
    refine tq ⟨some 37, .load 116 (.tmp 9), 116, "file.go:161", #[], none⟩ ?_ 5 rfl ?_ ?_;rotate_left;·(intros;go_simp<;>with_reducible rfl)
    try simp only[Act.put,sqA,sqB,sqC]
    refine tq ⟨some 38, .move (.tmp 1), 52, "file.go:161", #[], none⟩ ?_ 6 rfl ?_ ?_;rotate_left;·(intros;go_simp<;>with_reducible rfl)
    try simp only[Act.put,sqA,sqB,sqC]
    refine tq ⟨some 39, .move (.tmp 6), 3, "file.go:161", #[], none⟩ ?_ 7 rfl ?_ ?_;rotate_left;·(intros;go_simp<;>with_reducible rfl)
    try simp only[Act.put,sqA,sqB,sqC]
    refine tq ⟨some 41, .move (.tmp 2), 52, "file.go:161", #[], none⟩ ?_ 9 rfl ?_ ?_;rotate_left;·(intros;go_simp<;>with_reducible rfl)
    try simp only[Act.put,sqA,sqB,sqC]
    refine tq ⟨some 42, .move (.tmp 6), 3, "file.go:161", #[], none⟩ ?_ 10 rfl ?_ ?_;rotate_left;·(intros;go_simp<;>with_reducible rfl)
    try simp only[Act.put,sqA,sqB,sqC]
    refine wpAnyH_ready (rs := [8]) (by kernel_rfl) (by simp) ?_
    refine ar1 ⟨some 40, .call ⟨.value (.func 57), #[.tmp 38, .tmp 39], #[52, 3]⟩, 3, "file.go:161", #[⟨6, .data⟩, ⟨7, .data⟩], none⟩ rfl (fun K hK => ?_)
    ·go_simp
     refine (pat_any _ lf.p lf.cap lf.L kk (HIlf.out _ D0) Llf.out hjk).mono ?_
     rintro e wa ⟨rfl, hdwa⟩
     have Dwa := Lib.hid (Bel.trans D0 hdwa.bel)
     have Swa : (wa.cell? ⟨wr.heap.size, 0, none⟩ = some (.slice p y.bytes.length cap) ∧ wa.cell? ⟨wr.heap.size, 1, none⟩ = some (.int .i64 y.safe) ∧ wa.cell? ⟨b, 1, none⟩ = some (.map (some mb))) := ⟨cell_later Dwa.out e0, cell_later Dwa.out e1, cell_later Dwa.out e4⟩
     dsimp only
     refine hK.out _ _ Swa (fun hHeldwa => ?_)
     clear hK K hdwa
     try simp only[Act.put,sqA,sqB,sqC]
     refine wpAnyH_ready (rs := [11]) (by kernel_rfl) (by simp) ?_
     refine ar1 ⟨some 43, .call ⟨.value (.func 57), #[.tmp 41, .tmp 42], #[52, 3]⟩, 3, "file.go:161", #[⟨9, .data⟩, ⟨10, .data⟩, ⟨8, .chain⟩], none⟩ rfl (fun K hK => ?_)
     go_simp
     refine (pat_any _ sp.p sp.cap sp.L kk (HIsp.out _ Dwa.out) Lsp.out hjk).mono ?_
     rintro e wb ⟨rfl, hdwb⟩
     have Dwb := Lib.hid (Bel.trans Dwa.out hdwb.bel)
     have Swb : (wb.cell? ⟨wr.heap.size, 0, none⟩ = some (.slice p y.bytes.length cap) ∧ wb.cell? ⟨wr.heap.size, 1, none⟩ = some (.int .i64 y.safe) ∧ wb.cell? ⟨b, 1, none⟩ = some (.map (some mb))) := ⟨cell_later Dwb.out e0, cell_later Dwb.out e1, cell_later Dwb.out e4⟩
     dsimp only
     refine hK.out _ _ Swb (fun hHeldwb => ?_)
     clear hK K hdwb
     try simp only[Act.put,sqA,sqB,sqC]
     refine wpAnyH_ready (rs := [12]) (by kernel_rfl) (by simp) ?_
     refine ar1 ⟨some 44, .call ⟨.value (.func 56), #[.tmp 37, .tmp 40, .tmp 43], #[116, 3, 3]⟩, 116, "file.go:161", #[⟨5, .data⟩, ⟨8, .data⟩, ⟨11, .data⟩, ⟨11, .chain⟩], none⟩ rfl (fun K hK => ?_)
     go_simp
     refine (crashed_any n₀ _ p y.bytes.length cap y.safe y.bytes (atN lf.L kk) (atN sp.L kk) (HOW.out.bel (HB4.out.trans Dwb.out)) hb2 hb1 HAQ.out).mono ?_
     rintro e w5 ⟨rfl, hv5, hk5⟩
     have HV5 := Lib.hid hv5
     have HK5 := Lib.hid (((Keep.of_bel (HB4.out.trans Dwb.out) _).trans hk5 (fun x hx => Or.inl hx)))
     have S5 : (w5.cell? ⟨wr.heap.size, 0, none⟩ = some (.slice p y.bytes.length cap) ∧ w5.cell? ⟨wr.heap.size, 1, none⟩ = some (.int .i64 y.safe) ∧ w5.cell? ⟨b, 1, none⟩ = some (.map (some mb))) := ⟨hk5.cell Swb.1 HQ9.out, hk5.cell Swb.2.1 HQ9.out, hk5.cell Swb.2.2 HQB.out⟩
     have HV2 := Lib.hid (show FilesV n₀ w5 mb D V (dn ++ y :: M.L.drop (j + 1)) (some y.name) from HV.out.but HMEM.out (by rw [HPV.out]; exact HK5.out))
     clear hv5 hk5
     dsimp only
     refine hK.out _ _ S5 (fun hHeld5 => ?_)
     clear hK K
     try simp only[Act.put,sqA,sqB,sqC]
     refine wpAnyH_ready (rs := [13]) (by kernel_rfl) (by simp) ?_
     refine ar1 ⟨none, .mapUpdate 111 (.tmp 35) (.tmp 36) (.tmp 44), 0, "file.go:161", #[⟨3, .data⟩, ⟨4, .data⟩, ⟨12, .data⟩, ⟨12, .chain⟩, ⟨0, .phase⟩, ⟨1, .phase⟩, ⟨2, .phase⟩, ⟨3, .phase⟩, ⟨4, .phase⟩, ⟨5, .phase⟩, ⟨6, .phase⟩, ⟨7, .phase⟩, ⟨8, .phase⟩, ⟨9, .phase⟩, ⟨10, .phase⟩, ⟨11, .phase⟩, ⟨12, .phase⟩], none⟩ rfl (fun K hK => ?_)
     refine step_store (mb := mb) (s := ⟨y.name.toArray⟩) (val := .agg #[.slice p (y.safe + leftN (atN lf.L kk) (y.bytes.length - y.safe)) cap, .int .i64 (y.safe + leftN (atN lf.L kk) (y.bytes.length - y.safe) : Nat)]) rfl (.tmp 35) (.tmp 36) (.tmp 44) rfl rfl rfl rfl HV2.out.own HLEN.out hsz2.out ?_
     intro w6 ho hk6
     refine hK.out _ _ ⟨hk6.cell S5.1 (by simpa using NB9), hk6.cell S5.2.1 (by simpa using NB9), hk6.cell S5.2.2 (by simpa using N4)⟩ (fun hHeld6 => ?_)
     clear hK K
     try simp only[Act.put,sqA,sqB,sqC]
     refine wpAnyH_done (by kernel_rfl) ?_ _
     have HO := Lib.hid ho
     have HK6 := Lib.hid hk6
     clear ho hk6 S5
     go_wp2_with (fail)
     go_roundw
     case rel =>
      have hval := HV5.out.keep HK6.out (fun k hk1 hk2 => by
       rw [List.mem_singleton] at hk2
       subst hk2
       exact HV2.out.ne_row HV5.out hk1)
      have hput := FilesV.put (y := crX (atN lf.L kk) (atN sp.L kk) y) (v' := .slice p (y.safe + leftN (atN lf.L kk) (y.bytes.length - y.safe)) cap) HS2.out (by rw [crX_name]; exact HV2.out) (x := w6) (n := (dn ++ y :: M.L.drop (j + 1)).length + 1) (by
        have := HO.out
        simp only [List.toList_toArray] at this
        exact this) HK6.out hval (fun z hz hne k hk => by
        rw [crX_name] at hne
        exact HV.out.apart y HMEM.out z hz (fun e => hne e.symm) k (by rw [HPV.out, slice_block p _ (y.safe + leftN (atN lf.L kk) (y.bytes.length - y.safe)) cap]; exact hk))
      rw [ins_at HS2.out (crX_name _ _ _)] at hput
      have hKF : Keep F w2 w6 := ((HKP.out.trans (HK5.out.mono (G := F) HRF.out) (fun x hx => Or.inl hx))).trans (HK6.out.mono (G := F) (fun x hx => by rw [List.mem_singleton] at hx; rw [hx]; exact HMF.out)) (fun x hx => Or.inl hx)
      refine ⟨j + 1, kk + 1, dn ++ [crX (atN lf.L kk) (atN sp.L kk) y], by go_num, by go_num, by omega, by omega, ?_, by have := HNS2.out; simpa [crX_name] using this, by simp [HDL.out], (HHD.out.keep HK5.out HQB.out).keep HK6.out (by simpa using N4), ?_, hKF⟩
      ·rw [HCR.out, crashF, if_neg HSV.out]; simp
      ·refine Or.inr ⟨mb, _, _, rfl, by simpa using hput, HMF.out, fun z hz k hk => ?_⟩
       by_cases he : z.name = y.name
       ·simp only [crX_name, he, if_true] at hk
        exact HVF.out y HMEM.out k (by rw [HPV.out, slice_block p _ (y.safe + leftN (atN lf.L kk) (y.bytes.length - y.safe)) cap]; exact hk)
       ·simp only [crX_name, he, if_false] at hk
        refine HVF.out z ?_ k hk
        simp only [List.append_assoc, List.singleton_append, List.mem_append, List.mem_cons] at hz ⊢
        rcases hz with hz | rfl | hz
        ·exact Or.inl hz
        ·exact absurd (crX_name _ _ _) he
        ·exact Or.inr (Or.inr hz)
     case measure => simp [intOf]; omega
  ·obtain rfl : j = M.L.length := by omega
   go_wp2_with (fail)
   go_end0
   have e : M.L.drop M.L.length = [] := List.drop_length ..
   rw [e] at HFS HCR
   have ec : crashF lf.L sp.L 0 M.L = dn := by rw [HCR.out]; simp [crashF]
   refine ⟨⟨_, rfl⟩, F, ⟨⟨mv, t, HHD.out.1, HHD.out.2.1, HHD.out.2.2, ?_⟩, hlow, hbF, fun k hk => ⟨(HFW.out k hk).1, Nat.lt_of_lt_of_le (HFW.out k hk).2 (Nat.le_trans KF2.out.size HKP.out.size)⟩⟩, KF2.out.trans HKP.out (fun x hx => Or.inl hx), fun k hk => Or.inl hk⟩
   show FilesAt n₀ _ mv (crashF lf.L sp.L 0 M.L) F
   rw [ec]
   simpa using HFS.out

structure RS.ok (M : RS) : Prop where
 srt : Srt M.L
 len : M.L.length ≤ 60
 room : 0 ≤ M.room ∧ M.room ≤ 10000000
 fits : (bytesN M.L : Int) ≤ M.room
 turns : -1 ≤ M.turns ∧ M.turns ≤ 9223372036854775807
 each : ∀ x ∈ M.L, nameB x.name = true ∧ x.safe ≤ x.bytes.length
theorem new_ok (room : Int) (h : 0 ≤ room ∧ room ≤ 10000000) : (newS room).ok :=
 ⟨List.Pairwise.nil, by simp [newS], h, by simp [newS, bytesN]; exact h.1, by simp [newS], fun x hx => by cases hx⟩
theorem RS.ok.files {M : RS} (h : M.ok) {L' : List FI} (h1 : Srt L') (h2 : L'.length ≤ 60) (h3 : (bytesN L' : Int) ≤ M.room) (h4 : ∀ x ∈ L', nameB x.name = true ∧ x.safe ≤ x.bytes.length) : RS.ok { M with L := L' } := ⟨h1, h2, h.room, h3, h.turns, h4⟩
theorem turn_ok {M : RS} (h : M.ok) : (turnS M).2.ok := by
 obtain ⟨h1, h2, h3, h4, h5, h6⟩ := h
 unfold turnS
 split
 ·exact ⟨h1, h2, h3, h4, h5, h6⟩
 ·split
  ·exact ⟨h1, h2, h3, h4, by simp only []; omega, h6⟩
  ·exact ⟨h1, h2, h3, h4, h5, h6⟩
theorem turn_room (M : RS) : (turnS M).2.room = M.room := by unfold turnS; split; rfl; split <;> rfl
theorem chg_ok {M : RS} (h : M.ok) {L' : List FI} (h1 : Srt L') (h2 : L'.length ≤ 60) (h3 : (bytesN L' : Int) ≤ M.room) (h4 : ∀ x ∈ L', nameB x.name = true ∧ x.safe ≤ x.bytes.length) : (chgS M L').2.ok := by
 unfold chgS
 split
 ·exact turn_ok h
 ·exact (turn_ok h).files h1 h2 (by rw [turn_room]; exact h3) h4
theorem name_len {nm : List UInt8} (h : nameB nm = true) : nm.length ≤ 24 := by
 unfold nameB at h
 simp at h
 exact h.2.2
theorem ins_old_ok {M : RS} (h : M.ok) {nm : List UInt8} {y x : FI} (hy : getF nm M.L = some y) (hn : x.name = y.name) (hb : x.bytes.length ≤ y.bytes.length) (hs : x.safe ≤ x.bytes.length) : (chgS M (insS x M.L)).2.ok := by
 have hg := getF_of_mem h.srt (getF_mem hy)
 refine chg_ok h (srt_ins x h.srt) ?_ ?_ ?_
 ·rw [len_ins x h.srt, hn, hg]; exact h.len
 ·have := bytes_ins x h.srt
  rw [hn, hg] at this
  simp only [szO] at this
  have := h.fits
  omega
 ·intro z hz
  rcases mem_ins hz with rfl | hz
  ·exact ⟨by rw [hn]; exact (h.each y (getF_mem hy)).1, hs⟩
  ·exact h.each z hz
theorem adm_zero {nm : List UInt8} {k : Nat} {M : RS} (h : admS nm k M = 0) : M.gone = false ∧ nameB nm = true ∧ ¬ ((getF nm M.L).isSome = false ∧ 60 ≤ M.L.length) ∧ ¬ M.room < (bytesN M.L : Int) + k := by
 unfold admS at h
 split at h
 ·cases h
 ·rename_i hg
  split at h
  ·cases h
  ·rename_i hn
   split at h
   ·cases h
   ·rename_i hm
    split at h
    ·cases h
    ·rename_i hf
     exact ⟨by simpa using hg, by simpa using hn, hm, hf⟩
theorem addF_len (nm s : List UInt8) (L : List FI) : (addF nm s L).bytes.length = szO (getF nm L) + s.length := by
 unfold addF szO
 cases getF nm L with
 | none => simp
 | some y => simp
theorem addF_safe {nm s : List UInt8} {L : List FI} (h : ∀ x ∈ L, nameB x.name = true ∧ x.safe ≤ x.bytes.length) : (addF nm s L).safe ≤ (addF nm s L).bytes.length := by
 unfold addF
 cases hy : getF nm L with
 | none => simp
 | some y => have := (h y (getF_mem hy)).2; simp; omega
theorem add_ok {M : RS} (h : M.ok) (nm s : List UInt8) : (addS nm s M).2.ok := by
 unfold addS
 split
 ·rename_i ha
  obtain ⟨h1, h2, h3, h4⟩ := adm_zero ha
  refine chg_ok h (srt_ins _ h.srt) ?_ ?_ ?_
  ·rw [len_ins _ h.srt, addF_name]
   split
   ·exact h.len
   ·rename_i hc
    rw [Bool.not_eq_true] at hc
    have : ¬ 60 ≤ M.L.length := fun h60 => h3 ⟨hc, h60⟩
    omega
  ·have := bytes_ins (addF nm s M.L) h.srt
   rw [addF_name, addF_len] at this
   omega
  ·intro z hz
   rcases mem_ins hz with rfl | hz
   ·exact ⟨by rw [addF_name]; exact h2, addF_safe h.each⟩
   ·exact h.each z hz
 ·exact h
theorem on_ok {M : RS} (h : M.ok) (nm : List UInt8) {k : FI → Int × RS} (hk : ∀ y, getF nm M.L = some y → (k y).2.ok) : (onS nm M k).2.ok := by
 unfold onS
 split
 ·exact h
 ·cases hy : getF nm M.L with
  | none => exact h
  | some y => exact hk y hy
theorem flush_ok {M : RS} (h : M.ok) (nm : List UInt8) : (flushS nm M).2.ok := on_ok h nm fun y hy => ins_old_ok h hy rfl (Nat.le_refl _) (Nat.le_refl _)
theorem cut_ok {M : RS} (h : M.ok) (nm : List UInt8) (n : Int) : (cutS nm n M).2.ok := on_ok h nm fun y hy => by
 split
 ·exact h
 ·rename_i hn
  refine ins_old_ok h hy rfl (by simp; omega) ?_
  have : (y.bytes.take n.toNat).length = n.toNat := by rw [List.length_take]; omega
  show min y.safe n.toNat ≤ (y.bytes.take n.toNat).length
  omega
theorem out_files {M : RS} (h : M.ok) (nm : List UInt8) : Srt (outS nm M.L) ∧ (outS nm M.L).length ≤ M.L.length ∧ bytesN (outS nm M.L) ≤ bytesN M.L ∧ ∀ x ∈ outS nm M.L, nameB x.name = true ∧ x.safe ≤ x.bytes.length := by
 refine ⟨srt_out nm h.srt, ?_, ?_, fun x hx => h.each x (mem_out hx)⟩
 ·rw [len_out nm h.srt]; split <;> omega
 ·have := bytes_out nm h.srt; omega
theorem drop_ok {M : RS} (h : M.ok) (nm : List UInt8) : (dropS nm M).2.ok := on_ok h nm fun y hy => by
 obtain ⟨h1, h2, h3, h4⟩ := out_files h nm
 exact chg_ok h h1 (Nat.le_trans h2 h.len) (by have := h.fits; omega) h4
theorem lim_ok {M : RS} (h : M.ok) (t : Int) (ht : in64 t) : (limS t M).ok := by
 obtain ⟨h1, h2, h3, h4, h5, h6⟩ := h
 obtain ⟨t1, t2⟩ := ht
 exact ⟨h1, h2, h3, h4, by unfold limS; simp only []; split <;> omega, h6⟩
theorem left_le (l : Int) (k : Nat) : leftN l k ≤ k := by unfold leftN; omega
theorem crX_len (l s : Int) (x : FI) (h : x.safe ≤ x.bytes.length) : (crX l s x).bytes.length = x.safe + leftN l (x.bytes.length - x.safe) := by
 have := left_le l (x.bytes.length - x.safe)
 unfold crX
 simp only []
 split
 ·rw [List.length_take]; omega
 ·rw [List.length_set, List.length_take]; omega
theorem crash_names (lf sp : List Int) : ∀ (L : List FI) (k : Nat), (crashF lf sp k L).map (·.name) = L.map (·.name)
 | [], _ => rfl
 | x :: L, k => by
  rw [crashF]
  split
  ·rw [List.map_cons, crash_names, List.map_cons]
  ·rw [List.map_cons, crash_names, List.map_cons]; rfl
theorem crash_bytes (lf sp : List Int) : ∀ (L : List FI) (k : Nat), (∀ x ∈ L, x.safe ≤ x.bytes.length) → bytesN (crashF lf sp k L) ≤ bytesN L
 | [], _, _ => Nat.le_refl _
 | x :: L, k, h => by
  rw [crashF]
  split
  ·have := crash_bytes lf sp L k (fun y hy => h y (by simp [hy]))
   simp only [bytesN]; omega
  ·have := crash_bytes lf sp L (k + 1) (fun y hy => h y (by simp [hy]))
   have h1 := crX_len (atN lf k) (atN sp k) x (h x (by simp))
   have h2 := left_le (atN lf k) (x.bytes.length - x.safe)
   have h3 := h x (by simp)
   simp only [bytesN]; omega
theorem crash_each (lf sp : List Int) : ∀ (L : List FI) (k : Nat), (∀ x ∈ L, nameB x.name = true ∧ x.safe ≤ x.bytes.length) → ∀ x ∈ crashF lf sp k L, nameB x.name = true ∧ x.safe ≤ x.bytes.length
 | [], _, _, x, hx => by cases hx
 | y :: L, k, h, x, hx => by
  rw [crashF] at hx
  split at hx
  ·rcases List.mem_cons.1 hx with rfl | hx
   ·exact h x (by simp)
   ·exact crash_each lf sp L k (fun z hz => h z (by simp [hz])) x hx
  ·rcases List.mem_cons.1 hx with rfl | hx
   ·exact ⟨(h y (by simp)).1, by rw [crX_len _ _ _ (h y (by simp)).2]; exact Nat.le_refl _⟩
   ·exact crash_each lf sp L (k + 1) (fun z hz => h z (by simp [hz])) x hx
theorem crash_ok {M : RS} (h : M.ok) (lf sp : List Int) : (crashS lf sp M).ok := by
 have hn := crash_names lf sp M.L 0
 refine ⟨srt_names hn.symm h.srt, ?_, h.room, ?_, by simp [crashS, onM], crash_each lf sp M.L 0 h.each⟩
 ·have := congrArg List.length hn
  simp only [List.length_map] at this
  show (crashF lf sp 0 M.L).length ≤ 60
  rw [this]; exact h.len
 ·have := crash_bytes lf sp M.L 0 (fun x hx => (h.each x hx).2)
  have := h.fits
  show ((bytesN (crashF lf sp 0 M.L) : Nat) : Int) ≤ M.room
  omega
def pickN (c : Int) (n : Nat) : Nat := if c < 0 then (-(c + 1)).toNat % n else c.toNat % n
theorem pickN_lt (c : Int) {n : Nat} (h : 0 < n) : pickN c n < n := by unfold pickN; split <;> exact Nat.mod_lt _ h
def AV.small (a : AV) : Bool := decide (a.data.size ≤ 500) && decide (a.name.size ≤ 100) && decide (a.to.size ≤ 100) && decide (a.left.L.length ≤ 80) && decide (a.spoil.L.length ≤ 80)

structure ArgOut (F : List Nat) (a : AV) : Prop where
 left : ∀ d, a.left.p = some d → a.left.L ≠ [] → d.block ∉ F
 spoil : ∀ d, a.spoil.p = some d → a.spoil.L ≠ [] → d.block ∉ F
theorem each_ok {M : RS} (h : M.ok) : ∀ x ∈ M.L, x.bytes.length ≤ 1000000000 ∧ x.safe ≤ x.bytes.length ∧ x.name.length ≤ 1000 := fun x hx =>
 ⟨Nat.le_trans (bytes_mem hx) (by have := h.fits; have := h.room; omega), (h.each x hx).2, Nat.le_trans (name_len (h.each x hx).1) (by omega)⟩
theorem ProgTo.before {n₀ : Nat} {w y x : World} {b : Nat} {M : RS} {F : List Nat} (h : ProgTo n₀ y x b M F) (hb : Bel w y) : ProgTo n₀ w x b M F := by
 obtain ⟨G, h1, h2, h3⟩ := h
 exact ⟨G, h1, (Keep.of_bel hb F).trans h2 (fun x hx => Or.inl hx), fun k hk => (h3 k hk).imp id (fun h => Nat.le_trans hb.size h)⟩

def St (w₀ x : World) (b : Nat) (M : RS) : Prop := (∃ F, ProgAt w₀.heap.size x b M F) ∧ Bel w₀ x ∧ M.ok
section
variable {w₀ x y : World} {b : Nat} {M M' : RS} {F : List Nat}
theorem St.bel (h : St w₀ x b M) (hb : Bel x y) : St w₀ y b M := by
 obtain ⟨⟨F, h1⟩, h2, h3⟩ := h
 exact ⟨⟨F, h1.bel hb⟩, h2.trans hb, h3⟩
theorem St.low (h : St w₀ x b M) : Bel w₀ x := h.2.1
theorem St.good (h : St w₀ x b M) : M.ok := h.2.2
theorem good_len (h : M.ok) : M.L.length ≤ 1000 := Nat.le_trans h.len (by omega)
theorem good_bytes (h : M.ok) : bytesN M.L ≤ 1000000000 := by have := h.fits; have := h.room; omega
end
theorem ints_low {w : World} {s : SI} (h : SI.ok w s) : ∀ d, s.p = some d → s.L ≠ [] → d.block < w.heap.size := by
 intro d hd hne
 obtain ⟨a, ha, hc⟩ := h.1 0 (List.length_pos_iff.2 hne)
 obtain rfl : d = a := by rw [hd] at ha; simpa using ha
 have := block_lt_of_cell hc
 rwa [add_block] at this

theorem own_low {B B' : Nat} {w : World} {v : Value} {l : List UInt8} (h : Own B w v l) (hB : B' ≤ B) : Own B' w v l := by
 obtain ⟨h1, h2⟩ := h
 refine ⟨h1, ?_⟩
 rcases h2 with h2 | ⟨g, cap, cur, hv, hg, r⟩
 ·exact Or.inl h2
 ·exact Or.inr ⟨g, cap, cur, hv, Nat.le_trans hB hg, r⟩
theorem prog_low {n n' : Nat} {w : World} {b : Nat} {M : RS} {F : List Nat} (h : ProgAt n w b M F) (hn : n' ≤ n) : ProgAt n' w b M F := by
 refine ⟨?_, Nat.le_trans hn h.low, h.mem, fun k hk => ⟨Nat.le_trans hn (h.within k hk).1, (h.within k hk).2⟩⟩
 obtain ⟨mv, t, a1, a2, a3, a4⟩ := h.ex
 refine ⟨mv, t, a1, a2, a3, ?_⟩
 rcases a4 with a4 | ⟨mb, D, V, a5, a6, a7, a8⟩
 ·exact Or.inl a4
 ·exact Or.inr ⟨mb, D, V, a5, ⟨a6.own, Nat.le_trans hn a6.low, a6.size, a6.has, a6.at_, (fun y hy he => own_low (a6.val y hy he) hn), a6.apart⟩, a7, a8⟩

def RefP (n₀ : Nat) (w : World) (b : Nat) (M : RS) (F : List Nat) : Prop := ∃ v, RefAt n₀ w b M v ∧ b ∈ F ∧ (∀ k, v.ownBlock = some k → k ∈ F) ∧ ∀ k ∈ F, n₀ ≤ k ∧ k < w.heap.size
def RefTo (n₀ : Nat) (w x : World) (b : Nat) (M : RS) (F : List Nat) : Prop := ∃ G, RefP n₀ x b M G ∧ Keep F w x ∧ ∀ k ∈ G, k ∈ F ∨ w.heap.size ≤ k
def thereG (nm : List UInt8) (M : RS) : FI × Int := if M.gone then (noFile, 7) else match getF nm M.L with
  | some y => (y, 0)
  | none => (noFile, 4)
theorem there_eq (nm : List UInt8) {M : RS} (hs : Srt M.L) : thereS nm M = thereG nm M := by
 unfold thereS thereG
 cases hI : isN nm M.L with
 | true =>
  have h1 := find_getF nm hs hI
  have h2 := is_getF nm hs
  rw [hI] at h2
  cases hy : getF nm M.L with
  | none => rw [hy] at h2; cases h2
  | some y => rw [h1, hy]; rfl
 | false =>
  have h2 := is_getF nm hs
  rw [hI] at h2
  cases hy : getF nm M.L with
  | some y => rw [hy] at h2; cases h2
  | none => rfl
section
variable {n₀ : Nat} {w x y : World} {b : Nat} {M M' : RS} {F : List Nat} {v v' : Value}
theorem ref_to (hb : b ∈ F) (hv : ∀ k, v.ownBlock = some k → k ∈ F) (hF : ∀ k ∈ F, n₀ ≤ k ∧ k < w.heap.size) (hn : n₀ ≤ w.heap.size) (h : RefAt n₀ x b M v') (hk : Keep F w x) (hv' : v' = v ∨ ∀ k, v'.ownBlock = some k → w.heap.size ≤ k ∧ k < x.heap.size) : RefTo n₀ w x b M F := by
 refine ⟨F ++ v'.ownBlock.toList, ⟨v', h, by simp [hb], fun k hk => by simp [hk], fun k hk' => ?_⟩, hk, fun k hk' => ?_⟩
 ·rw [List.mem_append] at hk'
  rcases hk' with hk' | hk'
  ·exact ⟨(hF k hk').1, Nat.lt_of_lt_of_le (hF k hk').2 hk.size⟩
  ·have e : v'.ownBlock = some k := by simpa using hk'
   rcases hv' with rfl | hv'
   ·have := hF k (hv k e)
    exact ⟨this.1, Nat.lt_of_lt_of_le this.2 hk.size⟩
   ·exact ⟨Nat.le_trans hn (hv' k e).1, (hv' k e).2⟩
 ·rw [List.mem_append] at hk'
  rcases hk' with hk' | hk'
  ·exact Or.inl hk'
  ·have e : v'.ownBlock = some k := by simpa using hk'
   rcases hv' with rfl | hv'
   ·exact Or.inl (hv k e)
   ·exact Or.inr (hv' k e).1
theorem own_lt (h : RefAt n₀ w b M v) : ∀ k, v.ownBlock = some k → n₀ ≤ k ∧ k < w.heap.size := h.own.lt
end
theorem one_in {b n : Nat} {F : List Nat} (hb : b ∈ F) : ∀ x ∈ [b], x ∈ F ∨ n ≤ x := fun x hx => by rw [List.mem_singleton] at hx; subst hx; exact Or.inl hb
theorem RefAt.far {n₀ : Nat} {w x : World} {b B i : Nat} {M M' : RS} {v : Value} (h : RefAt n₀ w b M v) (h2 : RefAt n₀ x b M' v) (hB : w.heap.size ≤ B) (u : Value) : RefAt n₀ (x.setCell ⟨B, i, none⟩ u) b M' v :=
 h2.keep (keep_set x B i u) (by have := h.lt; rw [List.mem_singleton]; omega) (fun k hk => by have := (own_lt h k hk).2; rw [List.mem_singleton]; omega)
theorem fturn_zero {M : RS} (h : M.turns = 0) : turnS M = (7, { M with gone := true }) := by unfold turnS; rw [if_pos h]
theorem turn_one {M : RS} (h : ¬ M.turns = 0) : (turnS M).1 = 0 := by unfold turnS; rw [if_neg h]; split <;> rfl

set_option maxHeartbeats 4000000 in
set_option maxRecDepth 20000 in
theorem rflush_any (n₀ : Nat) (w : World) (b : Nat) (M : RS) (F : List Nat) (s : ByteArray) (h : RefP n₀ w b M F) (hM : M.ok) :
  Calls Tryz.prog 104 #[.pointer (some ⟨b, 0, none⟩), .string s] w fun e w' => e = .returned (.int .i64 (flushS s.data.toList M).1) ∧ RefTo n₀ w w' b (flushS s.data.toList M).2 F := by
 obtain ⟨v, h, hb, hv, hF⟩ := h
 have HR := Lib.hid h
 have HM := Lib.hid hM
 have hn : n₀ ≤ w.heap.size := Nat.le_of_lt (Nat.lt_of_le_of_lt h.low h.lt)
 have HTo := Lib.hid (fun x M' v' => ref_to (x := x) (M := M') (v' := v') hb hv hF hn)
 have hbF := Lib.hid hb
 clear h hM hb hv hF
 go_enter Tryz.func104, Tryz.ntmps104
 go_wp2_with (fail)
 refine (there_any n₀ _ b M v s HR.out (by have := HM.out.len; omega)).mono ?_
 rintro e w1 ⟨rfl, hb1⟩
 have HB := Lib.hid hb1
 clear hb1
 rw [there_eq _ HM.out.srt]
 unfold fileW
 cases hg : M.gone with
 | true =>
  have HA := Lib.hid (show flushS s.data.toList M = (7, M) by unfold flushS onS; rw [if_pos hg])
  have HT := Lib.hid (show thereG s.data.toList M = (noFile, 7) by unfold thereG; rw [if_pos hg])
  clear hg
  rw [HT.out]
  unfold noFile
  go_wp2_with (fail)
  go_ret
  rw [HA.out]
  exact ⟨rfl, HTo.out _ _ _ (HR.out.bel (HB.out.alloc _)) (Keep.of_bel (HB.out.alloc _) F) (Or.inl rfl)⟩
 | false =>
  cases hy : getF s.data.toList M.L with
  | none =>
   have HA := Lib.hid (show flushS s.data.toList M = (4, M) by unfold flushS onS; rw [if_neg (by rw [hg]; simp), hy])
   have HT := Lib.hid (show thereG s.data.toList M = (noFile, 4) by unfold thereG; rw [if_neg (by rw [hg]; simp), hy])
   clear hg hy
   rw [HT.out]
   unfold noFile
   go_wp2_with (fail)
   go_ret
   rw [HA.out]
   exact ⟨rfl, HTo.out _ _ _ (HR.out.bel (HB.out.alloc _)) (Keep.of_bel (HB.out.alloc _) F) (Or.inl rfl)⟩
  | some y =>
   have HA := Lib.hid (show flushS s.data.toList M = chgS M (insS { y with safe := y.bytes.length } M.L) by unfold flushS onS; rw [if_neg (by rw [hg]; simp), hy])
   have HT := Lib.hid (show thereG s.data.toList M = (y, 0) by unfold thereG; rw [if_neg (by rw [hg]; simp), hy])
   clear hg hy
   rw [HT.out]
   go_wp2_with (fail)
   refine (turn_any n₀ _ b M v (HR.out.bel (HB.out.alloc _)) HM.out.turns).mono ?_
   rintro e w2 ⟨rfl, h2, hk2⟩
   by_cases ht : M.turns = 0
   ·have HC := Lib.hid (show flushS s.data.toList M = (7, (turnS M).2) by rw [HA.out]; unfold chgS; rw [if_pos ht])
    have HT1 := Lib.hid (show (turnS M).1 = 7 by rw [fturn_zero ht])
    rw [HT1.out]
    have H2 := Lib.hid h2
    have HK2 := Lib.hid hk2
    clear h2 hk2 ht
    go_wp2_with (fail)
    go_ret
    rw [HC.out]
    exact ⟨rfl, HTo.out _ _ _ H2.out ((Keep.of_bel (HB.out.alloc _) F).trans HK2.out (fun x hx => by rw [List.mem_singleton] at hx; subst hx; exact Or.inl hbF.out)) (Or.inl rfl)⟩
   ·have HC := Lib.hid (show flushS s.data.toList M = (0, { (turnS M).2 with L := insS { y with safe := y.bytes.length } M.L }) by rw [HA.out]; unfold chgS; rw [if_neg ht])
    have HT1 := Lib.hid (turn_one ht)
    rw [HT1.out]
    have H2 := Lib.hid h2
    have HK2 := Lib.hid hk2
    clear h2 hk2 ht
    have hbw := HR.out.lt
    have hw1 := HB.out.size
    have hnb : w1.heap.size ∉ [b] := by rw [List.mem_singleton]; omega
    have p0 : w2.cell? ⟨w1.heap.size, 0, none⟩ = some (.string ⟨y.name.toArray⟩) := HK2.out.cell (by go_simp) hnb
    have p1 : w2.cell? ⟨w1.heap.size, 1, none⟩ = some (.string ⟨y.bytes.toArray⟩) := HK2.out.cell (by go_simp) hnb
    have p2 : w2.cell? ⟨w1.heap.size, 2, none⟩ = some (.int .i64 y.safe) := HK2.out.cell (by go_simp) hnb
    have pf : ∀ i, w2.frozen? ⟨w1.heap.size, i, none⟩ = false := fun i => (HK2.out.frozen (by simp) hnb).trans (by simp)
    have hys : (⟨y.bytes.toArray⟩ : ByteArray).size = y.bytes.length := by show y.bytes.toArray.size = _; simp
    go_wp2_with (fail)
    refine (fput_any n₀ _ b (turnS M).2 v (HR.out.far H2.out hw1 _) { y with safe := y.bytes.length } (by rw [turn_L]; have := HM.out.len; omega) (by have := HK2.out.size; simp at this ⊢; omega)).mono ?_
    rintro e w3 ⟨⟨u, rfl⟩, v', h4, hv4, hk4⟩
    rw [turn_L] at h4
    have H4 := Lib.hid h4
    have HV4 := Lib.hid hv4
    have HK4 := Lib.hid hk4
    clear h4 hv4 hk4
    go_wp2_with (fail)
    go_ret
    rw [HC.out]
    have K2 := ((Keep.of_bel (HB.out.alloc _) F).trans HK2.out (one_in hbF.out)).setCell (p := ⟨w1.heap.size, 2, none⟩) (Or.inr hw1) (.int .i64 y.bytes.length)
    exact ⟨rfl, HTo.out _ _ _ H4.out (K2.trans HK4.out (one_in hbF.out)) (Or.inr fun k hk => ⟨Nat.le_trans K2.size (HV4.out k hk), (own_lt H4.out k hk).2⟩)⟩

set_option maxHeartbeats 4000000 in
set_option maxRecDepth 20000 in
theorem rdrop_any (n₀ : Nat) (w : World) (b : Nat) (M : RS) (F : List Nat) (s : ByteArray) (h : RefP n₀ w b M F) (hM : M.ok) :
  Calls Tryz.prog 112 #[.pointer (some ⟨b, 0, none⟩), .string s] w fun e w' => e = .returned (.int .i64 (dropS s.data.toList M).1) ∧ RefTo n₀ w w' b (dropS s.data.toList M).2 F := by
 obtain ⟨v, h, hb, hv, hF⟩ := h
 have HR := Lib.hid h
 have HM := Lib.hid hM
 have hn : n₀ ≤ w.heap.size := Nat.le_of_lt (Nat.lt_of_le_of_lt h.low h.lt)
 have HTo := Lib.hid (fun x M' v' => ref_to (x := x) (M := M') (v' := v') hb hv hF hn)
 have hbF := Lib.hid hb
 clear h hM hb hv hF
 go_enter Tryz.func112, Tryz.ntmps112
 go_wp2_with (fail)
 refine (there_any n₀ _ b M v s HR.out (by have := HM.out.len; omega)).mono ?_
 rintro e w1 ⟨rfl, hb1⟩
 have HB := Lib.hid hb1
 clear hb1
 rw [there_eq _ HM.out.srt]
 unfold fileW
 cases hg : M.gone with
 | true =>
  have HA := Lib.hid (show dropS s.data.toList M = (7, M) by unfold dropS onS; rw [if_pos hg])
  have HT := Lib.hid (show thereG s.data.toList M = (noFile, 7) by unfold thereG; rw [if_pos hg])
  clear hg
  rw [HT.out]
  unfold noFile
  go_wp2_with (fail)
  go_ret
  rw [HA.out]
  exact ⟨rfl, HTo.out _ _ _ (HR.out.bel (HB.out.alloc _)) (Keep.of_bel (HB.out.alloc _) F) (Or.inl rfl)⟩
 | false =>
  cases hy : getF s.data.toList M.L with
  | none =>
   have HA := Lib.hid (show dropS s.data.toList M = (4, M) by unfold dropS onS; rw [if_neg (by rw [hg]; simp), hy])
   have HT := Lib.hid (show thereG s.data.toList M = (noFile, 4) by unfold thereG; rw [if_neg (by rw [hg]; simp), hy])
   clear hg hy
   rw [HT.out]
   unfold noFile
   go_wp2_with (fail)
   go_ret
   rw [HA.out]
   exact ⟨rfl, HTo.out _ _ _ (HR.out.bel (HB.out.alloc _)) (Keep.of_bel (HB.out.alloc _) F) (Or.inl rfl)⟩
  | some y =>
   have HT := Lib.hid (show thereG s.data.toList M = (y, 0) by unfold thereG; rw [if_neg (by rw [hg]; simp), hy])
   have HA := Lib.hid (show dropS s.data.toList M = chgS M (outS s.data.toList M.L) by unfold dropS onS; rw [if_neg (by rw [hg]; simp), hy])
   clear hg hy
   rw [HT.out]
   go_wp2_with (fail)
   refine (turn_any n₀ _ b M v (HR.out.bel (HB.out.alloc _)) HM.out.turns).mono ?_
   rintro e w2 ⟨rfl, h2, hk2⟩
   by_cases ht : M.turns = 0
   ·have HC := Lib.hid (show dropS s.data.toList M = (7, (turnS M).2) by rw [HA.out]; unfold chgS; rw [if_pos ht])
    have HT1 := Lib.hid (show (turnS M).1 = 7 by rw [fturn_zero ht])
    rw [HT1.out]
    have H2 := Lib.hid h2
    have HK2 := Lib.hid hk2
    clear h2 hk2 ht
    go_wp2_with (fail)
    go_ret
    rw [HC.out]
    exact ⟨rfl, HTo.out _ _ _ H2.out ((Keep.of_bel (HB.out.alloc _) F).trans HK2.out (one_in hbF.out)) (Or.inl rfl)⟩
   have HC := Lib.hid (show dropS s.data.toList M = (0, { (turnS M).2 with L := outS s.data.toList M.L }) by rw [HA.out]; unfold chgS; rw [if_neg ht])
   have HT1 := Lib.hid (turn_one ht)
   rw [HT1.out]
   have H2 := Lib.hid h2
   have HK2 := Lib.hid hk2
   clear h2 hk2 ht
   have hbw := HR.out.lt
   have hw1 := HB.out.size
   go_wp2_with (fail)
   refine (out_any n₀ _ b (turnS M).2 v H2.out s (by rw [turn_L]; have := HM.out.len; omega) (by have := HK2.out.size; simp at this; omega)).mono ?_
   rintro e w3 ⟨⟨u, rfl⟩, v', h4, hv4, hk4⟩
   rw [turn_L] at h4
   have H4 := Lib.hid h4
   have HV4 := Lib.hid hv4
   have HK4 := Lib.hid hk4
   clear h4 hv4 hk4
   go_wp2_with (fail)
   go_ret
   rw [HC.out]
   have K2 := ((Keep.of_bel (HB.out.alloc _) F).trans HK2.out (one_in hbF.out))
   exact ⟨rfl, HTo.out _ _ _ H4.out (K2.trans HK4.out (one_in hbF.out)) (HV4.out.imp id fun h k hk => ⟨Nat.le_trans K2.size (h k hk), (own_lt H4.out k hk).2⟩)⟩

theorem good_bytes' {M : RS} (h : M.ok) : bytesN M.L ≤ 1000000000 := by have := h.fits; have := h.room; omega
set_option maxHeartbeats 4000000 in
set_option maxRecDepth 20000 in
theorem rcut_any (n₀ : Nat) (w : World) (b : Nat) (M : RS) (F : List Nat) (s : ByteArray) (n : Int) (hn64 : in64 n) (h : RefP n₀ w b M F) (hM : M.ok) :
  Calls Tryz.prog 103 #[.pointer (some ⟨b, 0, none⟩), .string s, .int .i64 n] w fun e w' => e = .returned (.int .i64 (cutS s.data.toList n M).1) ∧ RefTo n₀ w w' b (cutS s.data.toList n M).2 F := by
 obtain ⟨v, h, hb, hv, hF⟩ := h
 have HR := Lib.hid h
 have HM := Lib.hid hM
 have hn : n₀ ≤ w.heap.size := Nat.le_of_lt (Nat.lt_of_le_of_lt h.low h.lt)
 have HTo := Lib.hid (fun x M' v' => ref_to (x := x) (M := M') (v' := v') hb hv hF hn)
 have hbF := Lib.hid hb
 clear h hM hb hv hF
 obtain ⟨hn1, hn2⟩ := hn64
 go_enter Tryz.func103, Tryz.ntmps103
 go_wp2_with (fail)
 refine (there_any n₀ _ b M v s HR.out (by have := HM.out.len; omega)).mono ?_
 rintro e w1 ⟨rfl, hb1⟩
 have HB := Lib.hid hb1
 clear hb1
 rw [there_eq _ HM.out.srt]
 unfold fileW
 cases hg : M.gone with
 | true =>
  have HA := Lib.hid (show cutS s.data.toList n M = (7, M) by unfold cutS onS; rw [if_pos hg])
  have HT := Lib.hid (show thereG s.data.toList M = (noFile, 7) by unfold thereG; rw [if_pos hg])
  clear hg
  rw [HT.out]
  unfold noFile
  go_wp2_with (fail)
  go_ret
  rw [HA.out]
  exact ⟨rfl, HTo.out _ _ _ (HR.out.bel (HB.out.alloc _)) (Keep.of_bel (HB.out.alloc _) F) (Or.inl rfl)⟩
 | false =>
  cases hy : getF s.data.toList M.L with
  | none =>
   have HA := Lib.hid (show cutS s.data.toList n M = (4, M) by unfold cutS onS; rw [if_neg (by rw [hg]; simp), hy])
   have HT := Lib.hid (show thereG s.data.toList M = (noFile, 4) by unfold thereG; rw [if_neg (by rw [hg]; simp), hy])
   clear hg hy
   rw [HT.out]
   unfold noFile
   go_wp2_with (fail)
   go_ret
   rw [HA.out]
   exact ⟨rfl, HTo.out _ _ _ (HR.out.bel (HB.out.alloc _)) (Keep.of_bel (HB.out.alloc _) F) (Or.inl rfl)⟩
  | some y =>
   have HT := Lib.hid (show thereG s.data.toList M = (y, 0) by unfold thereG; rw [if_neg (by rw [hg]; simp), hy])
   by_cases hc : n < 0 ∨ (y.bytes.length : Int) < n
   ·have HA := Lib.hid (show cutS s.data.toList n M = (2, M) by unfold cutS onS; rw [if_neg (by rw [hg]; simp), hy]; simp only []; rw [if_pos hc])
    clear hg hy
    rw [HT.out]
    have hys : (⟨y.bytes.toArray⟩ : ByteArray).size = y.bytes.length := by show y.bytes.toArray.size = _; simp
    by_cases hc0 : n < 0
    ·go_wp2_with (fail)
     go_ret
     rw [HA.out]
     exact ⟨rfl, HTo.out _ _ _ (HR.out.bel (HB.out.alloc _)) (Keep.of_bel (HB.out.alloc _) F) (Or.inl rfl)⟩
    ·have hc1 : (y.bytes.length : Int) < n := by omega
     have hc2 : ¬ n < 0 := hc0
     go_wp2_with (fail)
     go_ret
     rw [HA.out]
     exact ⟨rfl, HTo.out _ _ _ (HR.out.bel (HB.out.alloc _)) (Keep.of_bel (HB.out.alloc _) F) (Or.inl rfl)⟩
   obtain ⟨n, rfl⟩ : ∃ k : Nat, n = k := ⟨n.toNat, by omega⟩
   have hnl : n ≤ y.bytes.length := by omega
   have HA := Lib.hid (show cutS s.data.toList n M = chgS M (insS { y with bytes := y.bytes.take n, safe := min y.safe n } M.L) by unfold cutS onS; rw [if_neg (by rw [hg]; simp), hy]; simp only []; rw [if_neg hc]; rfl)
   have hbn := bytes_mem (getF_mem hy)
   have hbm := good_bytes' HM.out
   clear hg hy hc
   rw [HT.out]
   have hys : (⟨y.bytes.toArray⟩ : ByteArray).size = y.bytes.length := by show y.bytes.toArray.size = _; simp
   go_wp2_with (fail)
   refine (turn_any n₀ _ b M v (HR.out.bel (HB.out.alloc _)) HM.out.turns).mono ?_
   rintro e w2 ⟨rfl, h2, hk2⟩
   by_cases ht : M.turns = 0
   ·have HC := Lib.hid (show cutS s.data.toList n M = (7, (turnS M).2) by rw [HA.out]; unfold chgS; rw [if_pos ht])
    have HT1 := Lib.hid (show (turnS M).1 = 7 by rw [fturn_zero ht])
    rw [HT1.out]
    have H2 := Lib.hid h2
    have HK2 := Lib.hid hk2
    clear h2 hk2 ht
    go_wp2_with (fail)
    go_ret
    rw [HC.out]
    exact ⟨rfl, HTo.out _ _ _ H2.out ((Keep.of_bel (HB.out.alloc _) F).trans HK2.out (one_in hbF.out)) (Or.inl rfl)⟩
   have HC := Lib.hid (show cutS s.data.toList n M = (0, { (turnS M).2 with L := insS { y with bytes := y.bytes.take n, safe := min y.safe n } M.L }) by rw [HA.out]; unfold chgS; rw [if_neg ht])
   have HT1 := Lib.hid (turn_one ht)
   rw [HT1.out]
   have H2 := Lib.hid h2
   have HK2 := Lib.hid hk2
   clear h2 hk2 ht
   have hbw := HR.out.lt
   have hw1 := HB.out.size
   have hnb : w1.heap.size ∉ [b] := by rw [List.mem_singleton]; omega
   have p0 : w2.cell? ⟨w1.heap.size, 0, none⟩ = some (.string ⟨y.name.toArray⟩) := HK2.out.cell (by go_simp) hnb
   have p1 : w2.cell? ⟨w1.heap.size, 1, none⟩ = some (.string ⟨y.bytes.toArray⟩) := HK2.out.cell (by go_simp) hnb
   have p2 : w2.cell? ⟨w1.heap.size, 2, none⟩ = some (.int .i64 y.safe) := HK2.out.cell (by go_simp) hnb
   have pf : ∀ i, w2.frozen? ⟨w1.heap.size, i, none⟩ = false := fun i => (HK2.out.frozen (by simp) hnb).trans (by simp)
   have hys : (⟨y.bytes.toArray⟩ : ByteArray).size = y.bytes.length := by show y.bytes.toArray.size = _; simp
   go_wp2_with (fail)
   have hmin : min (y.safe : Int) (n : Int) = ((min y.safe n : Nat) : Int) := by omega
   have hext : (⟨y.bytes.toArray⟩ : ByteArray).extract 0 n = ⟨(y.bytes.take n).toArray⟩ := by apply ByteArray.ext; simp [ByteArray.data_extract]
   rw [hmin, hext]
   have hf2 := (HR.out.far (i := 1) H2.out hw1 (.string ⟨(y.bytes.take n).toArray⟩))
   refine (fput_any n₀ _ b (turnS M).2 v (HR.out.far hf2 hw1 _) { y with bytes := y.bytes.take n, safe := min y.safe n } (by rw [turn_L]; have := HM.out.len; omega) (by have := HK2.out.size; simp at this ⊢; omega)).mono ?_
   rintro e w3 ⟨⟨u, rfl⟩, v', h4, hv4, hk4⟩
   rw [turn_L] at h4
   have H4 := Lib.hid h4
   have HV4 := Lib.hid hv4
   have HK4 := Lib.hid hk4
   clear h4 hv4 hk4
   go_wp2_with (fail)
   go_ret
   rw [HC.out]
   have K2 := (((Keep.of_bel (HB.out.alloc _) F).trans HK2.out (one_in hbF.out)).setCell (p := ⟨w1.heap.size, 1, none⟩) (Or.inr hw1) (.string ⟨(y.bytes.take n).toArray⟩)).setCell (p := ⟨w1.heap.size, 2, none⟩) (Or.inr hw1) (.int .i64 ((min y.safe n : Nat) : Int))
   exact ⟨rfl, HTo.out _ _ _ H4.out (K2.trans HK4.out (one_in hbF.out)) (Or.inr fun k hk => ⟨Nat.le_trans K2.size (HV4.out k hk), (own_lt H4.out k hk).2⟩)⟩


set_option maxHeartbeats 4000000 in
set_option maxRecDepth 20000 in
theorem radd_any (n₀ : Nat) (w : World) (b : Nat) (M : RS) (F : List Nat) (s u : ByteArray) (hs : s.size ≤ 1000000) (hu : u.size ≤ 1000000) (h : RefP n₀ w b M F) (hM : M.ok) :
  Calls Tryz.prog 36 #[.pointer (some ⟨b, 0, none⟩), .string s, .string u] w fun e w' => e = .returned (.int .i64 (addS s.data.toList u.data.toList M).1) ∧ RefTo n₀ w w' b (addS s.data.toList u.data.toList M).2 F := by
 obtain ⟨v, h, hb, hv, hF⟩ := h
 have HR := Lib.hid h
 have HM := Lib.hid hM
 have hn : n₀ ≤ w.heap.size := Nat.le_of_lt (Nat.lt_of_le_of_lt h.low h.lt)
 have HTo := Lib.hid (fun x M' v' => ref_to (x := x) (M := M') (v' := v') hb hv hF hn)
 have hbF := Lib.hid hb
 clear h hb hv hF
 have hsm : s.size ≤ maxLen := by unfold maxLen; omega
 have hul : u.data.toList.length = u.size := rfl
 have HS : isN s.data.toList M.L = (getF s.data.toList M.L).isSome := is_getF _ hM.srt
 have hbm := good_bytes' hM
 obtain ⟨hr1, hr2⟩ := hM.room
 have hlen := hM.len
 clear hM
 obtain ⟨p, cap, rfl⟩ := ownG_len HR.out.own
 have HFI := Lib.hid (show isN s.data.toList M.L = true → findN s.data.toList M.L < M.L.length from fun h => by
  rcases Nat.lt_or_ge (findN s.data.toList M.L) M.L.length with k | k
  ·exact k
  ·rw [is_end _ M.L (by omega)] at h; cases h)
 have HFG := Lib.hid (show isN s.data.toList M.L = true → M.L[findN s.data.toList M.L]? = getF s.data.toList M.L from fun h => find_getF _ HM.out.srt h)
 have hfle := find_le s.data.toList M.L
 go_enter Tryz.func36, Tryz.ntmps36
 go_wp2_with (fail)
 refine (find_any n₀ _ b M _ s HR.out (by omega)).mono ?_
 rintro e w0 ⟨rfl, hd0⟩
 have HB0 := Lib.hid hd0.bel
 clear hd0
 rw [HS] at HFI HFG ⊢
 clear HS
 generalize findN s.data.toList M.L = fn at *
 go_wp2_with (fail)
 refine (rname_any s _ hsm).mono ?_
 rintro e w1 ⟨rfl, hd1⟩
 have HB := Lib.hid (HB0.out.trans hd1.bel)
 clear hd1
 have HR1 := Lib.hid (HR.out.bel HB.out)
 obtain ⟨c0, c1, c2, c3⟩ := HR1.out.cells
 cases hg : M.gone with
 | true =>
  have HA := Lib.hid (show addS s.data.toList u.data.toList M = (7, M) by unfold addS admS; rw [if_pos hg]; rfl)
  rw [hg] at c3
  clear hg
  go_wp2_with (fail)
  go_ret
  rw [HA.out]
  exact ⟨rfl, HTo.out _ _ _ HR1.out (Keep.of_bel HB.out F) (Or.inl rfl)⟩
 | false =>
 rw [hg] at c3
 cases hnm : nameB s.data.toList with
 | false =>
  have HA := Lib.hid (show addS s.data.toList u.data.toList M = (3, M) by unfold addS admS; rw [hg, hnm]; rfl)
  clear hg hnm
  go_wp2_with (fail)
  go_ret
  rw [HA.out]
  exact ⟨rfl, HTo.out _ _ _ HR1.out (Keep.of_bel HB.out F) (Or.inl rfl)⟩
 | true =>
 by_cases hm : (getF s.data.toList M.L).isSome = false ∧ 60 ≤ M.L.length
 ·have HA := Lib.hid (show addS s.data.toList u.data.toList M = (11, M) by unfold addS admS; rw [hg, hnm, if_pos hm]; rfl)
  obtain ⟨hm1, hm2⟩ := hm
  rw [hm1]
  clear hg hnm hm1
  go_wp2_with (fail)
  go_ret
  rw [HA.out]
  exact ⟨rfl, HTo.out _ _ _ HR1.out (Keep.of_bel HB.out F) (Or.inl rfl)⟩
 have hroad : (getF s.data.toList M.L).isSome = true ∨ ((getF s.data.toList M.L).isSome = false ∧ M.L.length < 60) := by
  cases hi : (getF s.data.toList M.L).isSome with
  | true => exact Or.inl rfl
  | false => exact Or.inr ⟨rfl, by rw [hi] at hm; simp at hm; exact hm⟩
 have HQ := Lib.hid (show ¬ M.room < (bytesN M.L : Int) + (u.size : Nat) → addS s.data.toList u.data.toList M = chgS M (insS (addF s.data.toList u.data.toList M.L) M.L) from fun hfull => by
  unfold addS admS; rw [hg, hnm, if_neg hm, hul, if_neg hfull]; rfl)
 have HQ6 := Lib.hid (show M.room < (bytesN M.L : Int) + (u.size : Nat) → addS s.data.toList u.data.toList M = (6, M) from fun hfull => by
  unfold addS admS; rw [hg, hnm, if_neg hm, hul, if_pos hfull]; rfl)
 clear hg hnm hm
 rcases hroad with hi | ⟨hi, hlt⟩
 ·rw [hi] at HFI HFG ⊢
  have hfl := HFI.out rfl
  have hfg := HFG.out rfl
  rw [List.getElem?_eq_getElem hfl] at hfg
  obtain ⟨x, hx⟩ : ∃ x, x = M.L[fn] := ⟨_, rfl⟩
  rw [← hx] at hfg
  have hne : M.L ≠ [] := by intro e; rw [e] at hfl; simp at hfl
  have HAF := Lib.hid (show addF s.data.toList u.data.toList M.L = { x with bytes := x.bytes ++ u.data.toList } by unfold addF; rw [← hfg])
  have hxb := bytes_mem (getF_mem hfg.symm)
  clear hfg hi HFI HFG
  go_wp2_with (fail)
  have hwr : IntKind.i64.wrap ((bytesN M.L : Int) + (u.size : Nat)) = (bytesN M.L : Int) + (u.size : Nat) := wrap_i64_in (by omega) (by omega)
  refine wp_region_held_drew (S := fun y => y.cell? ⟨b, 1, none⟩ = some (.int .i64 M.room)) (by kernel_rfl) c1 (fun hHeld => ?_)
  refine tq ⟨some 40, .move (.tmp 0), 63, "ref.go:95", #[], none⟩ ?_ 0 rfl ?_ ?_;rotate_left;·(intros;go_simp<;>with_reducible rfl)
  try simp only[Act.put,sqA,sqB,sqC]
  refine tq ⟨some 42, .move (.tmp 2), 9, "ref.go:95", #[], none⟩ ?_ 2 rfl ?_ ?_;rotate_left;·(intros;go_simp<;>with_reducible rfl)
  try simp only[Act.put,sqA,sqB,sqC]
  refine tq ⟨some 43, .call ⟨.builtin .len, #[.tmp 42], #[9]⟩, 3, "ref.go:95", #[⟨2, .data⟩], none⟩ ?_ 3 rfl ?_ ?_;rotate_left;·(intros;go_simp<;>with_reducible rfl)
  try simp only[Act.put,sqA,sqB,sqC]
  refine tq ⟨some 45, .move (.tmp 0), 63, "ref.go:95", #[], none⟩ ?_ 5 rfl ?_ ?_;rotate_left;·(intros;go_simp<;>with_reducible rfl)
  try simp only[Act.put,sqA,sqB,sqC]
  refine tq ⟨some 46, .nilCheck (.tmp 45), 0, "ref.go:95", #[⟨5, .data⟩], none⟩ ?_ 6 rfl ?_ ?_;rotate_left;·(intros;go_simp<;>with_reducible rfl)
  try simp only[Act.put,sqA,sqB,sqC]
  refine tq ⟨some 47, .fieldAddr 70 (.tmp 46) 1, 0, "ref.go:95", #[⟨6, .data⟩], none⟩ ?_ 7 rfl ?_ ?_;rotate_left;·(intros;go_simp<;>with_reducible rfl)
  try simp only[Act.put,sqA,sqB,sqC]
  refine tq ⟨some 48, .load 3 (.tmp 47), 3, "ref.go:95", #[⟨7, .data⟩], none⟩ ?_ 8 rfl ?_ ?_;rotate_left;·(intros;go_simp<;>with_reducible rfl)
  try simp only[Act.put,sqA,sqB,sqC]
  refine wpAnyH_ready (rs := [1]) (by kernel_rfl) (by simp) ?_
  refine ar1 ⟨some 41, .call ⟨.value (.func 25), #[.tmp 40], #[63]⟩, 3, "ref.go:95", #[⟨0, .data⟩], none⟩ rfl (fun K hK => ?_)
  go_simp
  refine (used_any n₀ _ b M _ (HR1.out.bel (Bel.refl w1).drew) (by omega) hbm).mono ?_
  rintro e w2 ⟨rfl, hd2⟩
  have D1 := Lib.hid ((Bel.refl w1).drew.trans hd2.bel)
  clear hd2
  have d1 := cell_later D1.out c1
  dsimp only
  refine hK.out _ _ d1 (fun hHeld => ?_);clear hK K;try simp only[Act.put,sqA,sqB,sqC]
  have HB2 := Lib.hid (HB.out.trans D1.out)
  by_cases hfull : M.room < (bytesN M.L : Int) + (u.size : Nat)
  ·have HA := Lib.hid (HQ6.out (by omega))
   refine tq ⟨some 44, .binOp .add 3 (.tmp 41) (.tmp 43) 3, 3, "ref.go:95", #[⟨1, .data⟩, ⟨3, .data⟩], none⟩ ?_ 4 rfl ?_ ?_;rotate_left;·(intros;go_simp<;>with_reducible rfl)
   try simp only[Act.put,sqA,sqB,sqC]
   refine tq ⟨some 49, .binOp .gtr 3 (.tmp 44) (.tmp 48) 3, 4, "ref.go:95", #[⟨4, .data⟩, ⟨8, .data⟩], none⟩ ?_ 9 rfl ?_ ?_;rotate_left;·(intros;go_simp<;>with_reducible rfl)
   try simp only[Act.put,sqA,sqB,sqC]
   refine tq ⟨some 39, .assign (.tmp 49), 4, "ref.go:95", #[⟨9, .data⟩, ⟨1, .chain⟩], none⟩ ?_ 10 rfl ?_ ?_;rotate_left;·(intros;go_simp<;>with_reducible rfl)
   try simp only[Act.put,sqA,sqB,sqC]
   refine wpAnyH_done (by kernel_rfl) ?_ _
   go_wp2_with (fail)
   go_ret
   rw [HA.out]
   exact ⟨rfl, HTo.out _ _ _ (HR.out.bel HB2.out) (Keep.of_bel HB2.out F) (Or.inl rfl)⟩
  have HA := Lib.hid (HQ.out (by omega))
  clear HQ HQ6
  refine tq ⟨some 44, .binOp .add 3 (.tmp 41) (.tmp 43) 3, 3, "ref.go:95", #[⟨1, .data⟩, ⟨3, .data⟩], none⟩ ?_ 4 rfl ?_ ?_;rotate_left;·(intros;go_simp<;>with_reducible rfl)
  try simp only[Act.put,sqA,sqB,sqC]
  refine tq ⟨some 49, .binOp .gtr 3 (.tmp 44) (.tmp 48) 3, 4, "ref.go:95", #[⟨4, .data⟩, ⟨8, .data⟩], none⟩ ?_ 9 rfl ?_ ?_;rotate_left;·(intros;go_simp<;>with_reducible rfl)
  try simp only[Act.put,sqA,sqB,sqC]
  refine tq ⟨some 39, .assign (.tmp 49), 4, "ref.go:95", #[⟨9, .data⟩, ⟨1, .chain⟩], none⟩ ?_ 10 rfl ?_ ?_;rotate_left;·(intros;go_simp<;>with_reducible rfl)
  try simp only[Act.put,sqA,sqB,sqC]
  refine wpAnyH_done (by kernel_rfl) ?_ _
  go_wp2_with (fail)
  refine (turn_any n₀ _ b M _ (HR.out.bel HB2.out) HM.out.turns).mono ?_
  rintro e w3 ⟨rfl, h2, hk2⟩
  by_cases ht : M.turns = 0
  ·have HC := Lib.hid (show addS s.data.toList u.data.toList M = (7, (turnS M).2) by rw [HA.out]; unfold chgS; rw [if_pos ht])
   have HT1 := Lib.hid (show (turnS M).1 = 7 by rw [fturn_zero ht])
   rw [HT1.out]
   have H2 := Lib.hid h2
   have HK2 := Lib.hid hk2
   clear h2 hk2 ht
   go_wp2_with (fail)
   go_ret
   rw [HC.out]
   exact ⟨rfl, HTo.out _ _ _ H2.out ((Keep.of_bel HB2.out F).trans HK2.out (one_in hbF.out)) (Or.inl rfl)⟩
  have HC := Lib.hid (show addS s.data.toList u.data.toList M = (0, { (turnS M).2 with L := insS (addF s.data.toList u.data.toList M.L) M.L }) by rw [HA.out]; unfold chgS; rw [if_neg ht])
  have HT1 := Lib.hid (turn_one ht)
  rw [HT1.out]
  have H2 := Lib.hid h2
  have HK2 := Lib.hid hk2
  clear h2 hk2 ht
  obtain ⟨e0, -, -, -⟩ := H2.out.cells
  have hb3 : b < w3.heap.size := H2.out.lt
  obtain ⟨g, cap', hv, _, hgl, _, hcs⟩ := ownG_cells fileOk (show OwnG fileEl n₀ w3 _ M.L by have := H2.out.own; rwa [turn_L] at this) hne
  cases hv
  have d0 := hcs fn x (by rw [List.getElem?_eq_getElem hfl, hx]) 0 _ rfl
  have d1 := hcs fn x (by rw [List.getElem?_eq_getElem hfl, hx]) 1 _ rfl
  have d2 := hcs fn x (by rw [List.getElem?_eq_getElem hfl, hx]) 2 _ rfl
  simp only [fileEl, Nat.add_zero] at d0 d1 d2
  clear hcs hx
  have hxs : (⟨x.bytes.toArray⟩ : ByteArray).size = x.bytes.length := by show x.bytes.toArray.size = _; simp
  have hub : x.bytes.length + u.size ≤ 2000000000 := by omega
  have hw3 : w.heap.size ≤ w3.heap.size := Nat.le_trans HB2.out.size HK2.out.size
  go_wp2_with (fail)
  have hcat : (⟨x.bytes.toArray⟩ : ByteArray) ++ u = ⟨(x.bytes ++ u.data.toList).toArray⟩ := by apply ByteArray.ext; simp
  have hfv : fileV (addF s.data.toList u.data.toList M.L) = .agg #[.string ⟨x.name.toArray⟩, .string ((⟨x.bytes.toArray⟩ : ByteArray) ++ u), .int .i64 x.safe] := by rw [HAF.out, hcat]; unfold fileV; simp
  have P := fput_any n₀ _ b _ _ (H2.out.bel ((Bel.refl w3).alloc (.cells #[.string ⟨x.name.toArray⟩, .string ((⟨x.bytes.toArray⟩ : ByteArray) ++ u), .int .i64 x.safe] 74))) (addF s.data.toList u.data.toList M.L) (by rw [turn_L]; omega) (by simp; omega)
  rw [hfv] at P
  refine P.mono ?_
  rintro e w4 ⟨⟨uu, rfl⟩, v4, h5, hv5, hk5⟩
  rw [turn_L] at h5
  have H5 := Lib.hid h5
  have HV5 := Lib.hid hv5
  have HK5 := Lib.hid hk5
  clear h5 hv5 hk5 P
  go_wp2_with (fail)
  go_ret
  rw [HC.out]
  have K2 := ((Keep.of_bel HB2.out F).trans HK2.out (one_in hbF.out)).alloc (.cells #[.string ⟨x.name.toArray⟩, .string ((⟨x.bytes.toArray⟩ : ByteArray) ++ u), .int .i64 x.safe] 74)
  exact ⟨rfl, HTo.out _ _ _ H5.out (K2.trans HK5.out (one_in hbF.out)) (Or.inr fun k hk => ⟨Nat.le_trans K2.size (HV5.out k hk), (own_lt H5.out k hk).2⟩)⟩
 ·rw [hi] at HFI HFG ⊢
  have hnone : getF s.data.toList M.L = none := by
   cases hy : getF s.data.toList M.L with
   | none => rfl
   | some y => rw [hy] at hi; cases hi
  have HAF := Lib.hid (show addF s.data.toList u.data.toList M.L = ⟨s.data.toList, u.data.toList, 0⟩ by unfold addF; rw [hnone])
  clear hi HFI HFG hnone
  go_wp2_with (fail)
  have hwr : IntKind.i64.wrap ((bytesN M.L : Int) + (u.size : Nat)) = (bytesN M.L : Int) + (u.size : Nat) := wrap_i64_in (by omega) (by omega)
  refine wp_region_held_drew (S := fun y => y.cell? ⟨b, 1, none⟩ = some (.int .i64 M.room)) (by kernel_rfl) c1 (fun hHeld => ?_)
  refine tq ⟨some 40, .move (.tmp 0), 63, "ref.go:95", #[], none⟩ ?_ 0 rfl ?_ ?_;rotate_left;·(intros;go_simp<;>with_reducible rfl)
  try simp only[Act.put,sqA,sqB,sqC]
  refine tq ⟨some 42, .move (.tmp 2), 9, "ref.go:95", #[], none⟩ ?_ 2 rfl ?_ ?_;rotate_left;·(intros;go_simp<;>with_reducible rfl)
  try simp only[Act.put,sqA,sqB,sqC]
  refine tq ⟨some 43, .call ⟨.builtin .len, #[.tmp 42], #[9]⟩, 3, "ref.go:95", #[⟨2, .data⟩], none⟩ ?_ 3 rfl ?_ ?_;rotate_left;·(intros;go_simp<;>with_reducible rfl)
  try simp only[Act.put,sqA,sqB,sqC]
  refine tq ⟨some 45, .move (.tmp 0), 63, "ref.go:95", #[], none⟩ ?_ 5 rfl ?_ ?_;rotate_left;·(intros;go_simp<;>with_reducible rfl)
  try simp only[Act.put,sqA,sqB,sqC]
  refine tq ⟨some 46, .nilCheck (.tmp 45), 0, "ref.go:95", #[⟨5, .data⟩], none⟩ ?_ 6 rfl ?_ ?_;rotate_left;·(intros;go_simp<;>with_reducible rfl)
  try simp only[Act.put,sqA,sqB,sqC]
  refine tq ⟨some 47, .fieldAddr 70 (.tmp 46) 1, 0, "ref.go:95", #[⟨6, .data⟩], none⟩ ?_ 7 rfl ?_ ?_;rotate_left;·(intros;go_simp<;>with_reducible rfl)
  try simp only[Act.put,sqA,sqB,sqC]
  refine tq ⟨some 48, .load 3 (.tmp 47), 3, "ref.go:95", #[⟨7, .data⟩], none⟩ ?_ 8 rfl ?_ ?_;rotate_left;·(intros;go_simp<;>with_reducible rfl)
  try simp only[Act.put,sqA,sqB,sqC]
  refine wpAnyH_ready (rs := [1]) (by kernel_rfl) (by simp) ?_
  refine ar1 ⟨some 41, .call ⟨.value (.func 25), #[.tmp 40], #[63]⟩, 3, "ref.go:95", #[⟨0, .data⟩], none⟩ rfl (fun K hK => ?_)
  go_simp
  refine (used_any n₀ _ b M _ (HR1.out.bel (Bel.refl w1).drew) (by omega) hbm).mono ?_
  rintro e w2 ⟨rfl, hd2⟩
  have D1 := Lib.hid ((Bel.refl w1).drew.trans hd2.bel)
  clear hd2
  have d1 := cell_later D1.out c1
  dsimp only
  refine hK.out _ _ d1 (fun hHeld => ?_);clear hK K;try simp only[Act.put,sqA,sqB,sqC]
  have HB2 := Lib.hid (HB.out.trans D1.out)
  by_cases hfull : M.room < (bytesN M.L : Int) + (u.size : Nat)
  ·have HA := Lib.hid (HQ6.out (by omega))
   refine tq ⟨some 44, .binOp .add 3 (.tmp 41) (.tmp 43) 3, 3, "ref.go:95", #[⟨1, .data⟩, ⟨3, .data⟩], none⟩ ?_ 4 rfl ?_ ?_;rotate_left;·(intros;go_simp<;>with_reducible rfl)
   try simp only[Act.put,sqA,sqB,sqC]
   refine tq ⟨some 49, .binOp .gtr 3 (.tmp 44) (.tmp 48) 3, 4, "ref.go:95", #[⟨4, .data⟩, ⟨8, .data⟩], none⟩ ?_ 9 rfl ?_ ?_;rotate_left;·(intros;go_simp<;>with_reducible rfl)
   try simp only[Act.put,sqA,sqB,sqC]
   refine tq ⟨some 39, .assign (.tmp 49), 4, "ref.go:95", #[⟨9, .data⟩, ⟨1, .chain⟩], none⟩ ?_ 10 rfl ?_ ?_;rotate_left;·(intros;go_simp<;>with_reducible rfl)
   try simp only[Act.put,sqA,sqB,sqC]
   refine wpAnyH_done (by kernel_rfl) ?_ _
   go_wp2_with (fail)
   go_ret
   rw [HA.out]
   exact ⟨rfl, HTo.out _ _ _ (HR.out.bel HB2.out) (Keep.of_bel HB2.out F) (Or.inl rfl)⟩
  have HA := Lib.hid (HQ.out (by omega))
  clear HQ HQ6
  refine tq ⟨some 44, .binOp .add 3 (.tmp 41) (.tmp 43) 3, 3, "ref.go:95", #[⟨1, .data⟩, ⟨3, .data⟩], none⟩ ?_ 4 rfl ?_ ?_;rotate_left;·(intros;go_simp<;>with_reducible rfl)
  try simp only[Act.put,sqA,sqB,sqC]
  refine tq ⟨some 49, .binOp .gtr 3 (.tmp 44) (.tmp 48) 3, 4, "ref.go:95", #[⟨4, .data⟩, ⟨8, .data⟩], none⟩ ?_ 9 rfl ?_ ?_;rotate_left;·(intros;go_simp<;>with_reducible rfl)
  try simp only[Act.put,sqA,sqB,sqC]
  refine tq ⟨some 39, .assign (.tmp 49), 4, "ref.go:95", #[⟨9, .data⟩, ⟨1, .chain⟩], none⟩ ?_ 10 rfl ?_ ?_;rotate_left;·(intros;go_simp<;>with_reducible rfl)
  try simp only[Act.put,sqA,sqB,sqC]
  refine wpAnyH_done (by kernel_rfl) ?_ _
  go_wp2_with (fail)
  refine (turn_any n₀ _ b M _ (HR.out.bel HB2.out) HM.out.turns).mono ?_
  rintro e w3 ⟨rfl, h2, hk2⟩
  by_cases ht : M.turns = 0
  ·have HC := Lib.hid (show addS s.data.toList u.data.toList M = (7, (turnS M).2) by rw [HA.out]; unfold chgS; rw [if_pos ht])
   have HT1 := Lib.hid (show (turnS M).1 = 7 by rw [fturn_zero ht])
   rw [HT1.out]
   have H2 := Lib.hid h2
   have HK2 := Lib.hid hk2
   clear h2 hk2 ht
   go_wp2_with (fail)
   go_ret
   rw [HC.out]
   exact ⟨rfl, HTo.out _ _ _ H2.out ((Keep.of_bel HB2.out F).trans HK2.out (one_in hbF.out)) (Or.inl rfl)⟩
  have HC := Lib.hid (show addS s.data.toList u.data.toList M = (0, { (turnS M).2 with L := insS (addF s.data.toList u.data.toList M.L) M.L }) by rw [HA.out]; unfold chgS; rw [if_neg ht])
  have HT1 := Lib.hid (turn_one ht)
  rw [HT1.out]
  have H2 := Lib.hid h2
  have HK2 := Lib.hid hk2
  clear h2 hk2 ht
  obtain ⟨e0, -, -, -⟩ := H2.out.cells
  have hb3 : b < w3.heap.size := H2.out.lt
  have hw3 : w.heap.size ≤ w3.heap.size := Nat.le_trans HB2.out.size HK2.out.size
  go_wp2_with (fail)
  have hcat : (⟨#[]⟩ : ByteArray) ++ u = ⟨(u.data.toList).toArray⟩ := by apply ByteArray.ext; simp
  have hfv : fileV (addF s.data.toList u.data.toList M.L) = .agg #[.string s, .string ((⟨#[]⟩ : ByteArray) ++ u), .int .i64 0] := by rw [HAF.out, hcat]; unfold fileV; simp
  have P := fput_any n₀ _ b _ _ (H2.out.bel ((Bel.refl w3).alloc (.cells #[.string s, .string ((⟨#[]⟩ : ByteArray) ++ u), .int .i64 0] 74))) (addF s.data.toList u.data.toList M.L) (by rw [turn_L]; omega) (by simp; omega)
  rw [hfv] at P
  refine P.mono ?_
  rintro e w4 ⟨⟨uu, rfl⟩, v4, h5, hv5, hk5⟩
  rw [turn_L] at h5
  have H5 := Lib.hid h5
  have HV5 := Lib.hid hv5
  have HK5 := Lib.hid hk5
  clear h5 hv5 hk5 P
  go_wp2_with (fail)
  go_ret
  rw [HC.out]
  have K2 := ((Keep.of_bel HB2.out F).trans HK2.out (one_in hbF.out)).alloc (.cells #[.string s, .string ((⟨#[]⟩ : ByteArray) ++ u), .int .i64 0] 74)
  exact ⟨rfl, HTo.out _ _ _ H5.out (K2.trans HK5.out (one_in hbF.out)) (Or.inr fun k hk => ⟨Nat.le_trans K2.size (HV5.out k hk), (own_lt H5.out k hk).2⟩)⟩

theorem all_cons (x : FI) (L : List FI) : fileEl.all (x :: L) = [.string ⟨x.name.toArray⟩, .string ⟨x.bytes.toArray⟩, .int .i64 x.safe] ++ fileEl.all L := by simp [El.all, fileEl]
theorem all_set (y : FI) : ∀ (L : List FI) (i : Nat), i < L.length → fileEl.all (L.set i y) = (((fileEl.all L).set (i * 3) (.string ⟨y.name.toArray⟩)).set (i * 3 + 1) (.string ⟨y.bytes.toArray⟩)).set (i * 3 + 2) (.int .i64 y.safe)
 | [], i, h => by simp at h
 | x :: L, 0, _ => by simp [all_cons]
 | x :: L, i + 1, h => by
  have ih := all_set y L i (by simpa using h)
  rw [List.set_cons_succ, all_cons, all_cons, ih, show (i + 1) * 3 = i * 3 + 1 + 1 + 1 by omega]
  simp
theorem row_set {B : Nat} {w : World} {g n cap : Nat} {L : List FI} (h : OwnG fileEl B w (.slice (some ⟨g, 0, none⟩) n cap) L) (i : Nat) (hi : i < L.length) (y : FI) :
  OwnG fileEl B (((w.setCell ⟨g, i * 3, none⟩ (.string ⟨y.name.toArray⟩)).setCell ⟨g, i * 3 + 1, none⟩ (.string ⟨y.bytes.toArray⟩)).setCell ⟨g, i * 3 + 2, none⟩ (.int .i64 y.safe)) (.slice (some ⟨g, 0, none⟩) n cap) (L.set i y) := by
 obtain ⟨h1, h2⟩ := h
 rcases h2 with ⟨hv, h0⟩ | ⟨g', cap', cur, hv, hg, hh, hc, hx, hsz, htk⟩
 ·cases hv
 ·simp only [Value.slice.injEq, Option.some.injEq, Addr.mk.injEq, and_true] at hv
  obtain ⟨rfl, hn, rfl⟩ := hv
  refine ⟨El.all_len fileOk _, Or.inr ⟨g, cap, ((cur.setIfInBounds (i * 3) (.string ⟨y.name.toArray⟩)).setIfInBounds (i * 3 + 1) (.string ⟨y.bytes.toArray⟩)).setIfInBounds (i * 3 + 2) (.int .i64 y.safe), by rw [List.length_set, hn], hg, blk_set (blk_set (blk_set hh _ _) _ _) _ _, by rw [List.length_set]; exact hc, hx, by simpa using hsz, ?_⟩⟩
  rw [all_set y L i hi, ← htk]
  simp [List.take_set]
theorem row_free {B : Nat} {w : World} {g n cap : Nat} {L : List FI} (h : OwnG fileEl B w (.slice (some ⟨g, 0, none⟩) n cap) L) (i : Nat) : w.frozen? ⟨g, i, none⟩ = false := by
 rcases h.2 with ⟨hv, h0⟩ | ⟨g', cap', cur, hv, hg, hh, _⟩
 ·cases hv
 ·simp only [Value.slice.injEq, Option.some.injEq, Addr.mk.injEq, and_true] at hv
  obtain ⟨rfl, _, _⟩ := hv
  simp [World.frozen?, hh]
end Go.Proofs.YtfbiinnenlgkfaaGreatDoor
