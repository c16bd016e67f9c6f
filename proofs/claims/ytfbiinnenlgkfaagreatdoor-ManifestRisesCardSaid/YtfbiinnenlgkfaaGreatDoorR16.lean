/- FFind, FQuery, FAdmit, FTurn, FCl1, FCl2, laid together. -/
import Derived.Test.YtfbiinnenlgkfaaGreatDoorR14
import Derived.Test.YtfbiinnenlgkfaaGreatDoorR15
import Derived.Test.YtfbiinnenlgkfaaGreatDoorR2
set_option linter.unusedSimpArgs false
set_option linter.unusedVariables false
namespace Go.Proofs.YtfbiinnenlgkfaaGreatDoor
open Go.RowKit Go.Deep Go.Maps

section
variable {n₀ : Nat} {w : World} {mb : Nat} {D : DataW Value} {V : List UInt8 → Value} {L : List FI} {e : Option (List UInt8)} {mv : Value} {F : List Nat}
theorem rv_held {v : Value} {z : DataW Value} {ps : List MemPlace} (h : RV v = some (z, ps)) : z = .held v := by
 simp only [RV, Option.some.injEq, Prod.mk.injEq] at h
 exact h.1.symm
theorem run_look_some (h : FilesV n₀ w mb D V L e) (s : ByteArray) (hs : s.size ≤ maxLen) {y : FI} (hy : getF s.data.toList L = some y) (c : Bool) :
  (Instr.lookup 111 (.map (some mb)) (.string s) c).run Tryz.prog w = .ok (if c then .tuple #[conV (V s.data.toList) y.safe, .bool true] else conV (V s.data.toList) y.safe) w := by
 have hh : Maps.has D (.string s.data.toList) = true := by rw [h.has, hy]; rfl
 cases c with
 | true =>
  obtain ⟨v, ps, hr, hv⟩ := h.own.look_ok keyLaw Tryz.underlying111 (zeroCon w) (zd := .held conZ) (zp := []) rfl (key_is s hs)
  rw [h.at_some hy, ] at hv
  have := rv_held hv
  simp only [DataW.held.injEq] at this
  rw [hr, hh, ← this]
  rfl
 | false =>
  obtain ⟨v, ps, hr, hv⟩ := h.own.lookup keyLaw Tryz.underlying111 (zeroCon w) (zd := .held conZ) (zp := []) rfl (key_is s hs)
  rw [h.at_some hy, ] at hv
  have := rv_held hv
  simp only [DataW.held.injEq] at this
  rw [hr, ← this]
  rfl
theorem run_look_none (h : FilesAt n₀ w mv L F) (s : ByteArray) (hs : s.size ≤ maxLen) (hy : getF s.data.toList L = none) (c : Bool) :
  (Instr.lookup 111 mv (.string s) c).run Tryz.prog w = .ok (if c then .tuple #[conZ, .bool false] else conZ) w := by
 rcases h with ⟨rfl, rfl⟩ | ⟨mb, D, V, rfl, h, _⟩
 ·exact Maps.look_nil c keyLaw Tryz.underlying111 (zeroCon w) (key_is s hs)
 have hh : Maps.has D (.string s.data.toList) = false := by rw [h.has, hy]; rfl
 cases c with
 | true =>
  obtain ⟨v, ps, hr, hv⟩ := h.own.look_ok keyLaw Tryz.underlying111 (zeroCon w) (zd := .held conZ) (zp := []) rfl (key_is s hs)
  rw [h.at_none hy, ] at hv
  have := rv_held hv
  simp only [DataW.held.injEq] at this
  rw [hr, hh, ← this]
  rfl
 | false =>
  obtain ⟨v, ps, hr, hv⟩ := h.own.lookup keyLaw Tryz.underlying111 (zeroCon w) (zd := .held conZ) (zp := []) rfl (key_is s hs)
  rw [h.at_none hy, ] at hv
  have := rv_held hv
  simp only [DataW.held.injEq] at this
  rw [hr, ← this]
  rfl
end
theorem wpList_look {w : World} {ops : Array Oper} {rest : List Oper} {o : Oper} {a : Act} {Q : Exit → Act → World → Prop} {c : Bool} {mv kv r : Value} (hrun : (Instr.lookup 111 mv kv c).run Tryz.prog w = .ok r w)
  (hg : o.guard = none) (m x : Operand) (hop : o.op = Op.lookup 111 m x c) (hm : a.eval m = mv) (hx : a.eval x = kv) (hK : wpList Tryz.prog ops Q rest (a.put o.dst r) w) : wpList Tryz.prog ops Q (o :: rest) a w := by
 refine wpList_plain hg fun K' hK' => ?_
 unfold Oper.wp
 simp [execOp, hop, hm, hx, hrun, Result.andThen]
 exact hK' _ _ hK

set_option maxHeartbeats 2000000 in
theorem find_gone (n₀ : Nat) (w : World) (b : Nat) (M : RS) (F : List Nat) (s : ByteArray) (h : ProgAt n₀ w b M F) (hgone : M.gone = true) :
  Calls Tryz.prog 119 #[.pointer (some ⟨b, 0, none⟩), .string s] w fun e w' => e = .returned (.tuple #[conZ, .int .i64 7]) ∧ Bel w w' := by
 obtain ⟨⟨mv, t, hb, -⟩, -⟩ := h
 have c4 : w.cell? ⟨b, 4, none⟩ = some (.bool true) := by simp [World.cell?, hb, hgone]
 clear hb hgone
 unfold conZ
 go_enter Tryz.func119, Tryz.ntmps119
 go_wp2_with (fail)
 exact bodyPost_ret (v := .tuple #[.agg #[.slice none 0 0, .int .i64 0], .int .i64 7]) (by simp [results, Tryz.results119, go_sem]) rfl ⟨rfl, (Bel.refl w).alloc _⟩
set_option maxHeartbeats 2000000 in
theorem find_none (n₀ : Nat) (w : World) (b : Nat) (M : RS) (F : List Nat) (s : ByteArray) (h : ProgAt n₀ w b M F) (hgone : M.gone = false) (hs : s.size ≤ maxLen) (hy : getF s.data.toList M.L = none) :
  Calls Tryz.prog 119 #[.pointer (some ⟨b, 0, none⟩), .string s] w fun e w' => e = .returned (.tuple #[conZ, .int .i64 4]) ∧ Bel w w' := by
 obtain ⟨⟨mv, t, hb, _, _, hf⟩, -⟩ := h
 have c4 : w.cell? ⟨b, 4, none⟩ = some (.bool false) := by simp [World.cell?, hb, hgone]
 have c1 : w.cell? ⟨b, 1, none⟩ = some mv := by simp [World.cell?, hb]
 have HF := Lib.hid hf
 have HY := Lib.hid hy
 clear hb hgone hf hy
 unfold conZ
 go_enter Tryz.func119, Tryz.ntmps119
 go_wp2_with (at_lookup; refine wpList_look (run_look_none (HF.out.bel ((Bel.refl w).alloc _)) s hs HY.out true) rfl _ _ rfl rfl rfl ?_; unfold conZ)
 exact bodyPost_ret (v := .tuple #[.agg #[.slice none 0 0, .int .i64 0], .int .i64 4]) (by simp [results, Tryz.results119, go_sem]) rfl ⟨rfl, ((Bel.refl w).alloc _).alloc _⟩
set_option maxHeartbeats 2000000 in
theorem find_some (n₀ : Nat) (w : World) (b : Nat) (M : RS) (mb : Nat) (t : Int) (D : DataW Value) (V : List UInt8 → Value) (s : ByteArray) (y : FI)
  (hb : w.heap[b]? = some (.cells #[.int .i64 M.room, .map (some mb), .bool (decide (0 ≤ M.turns)), .int .i64 t, .bool M.gone] 113 (0, 0))) (hV : FilesV n₀ w mb D V M.L none)
  (hgone : M.gone = false) (hs : s.size ≤ maxLen) (hy : getF s.data.toList M.L = some y) :
  Calls Tryz.prog 119 #[.pointer (some ⟨b, 0, none⟩), .string s] w fun e w' => e = .returned (.tuple #[conV (V s.data.toList) y.safe, .int .i64 0]) ∧ Bel w w' := by
 have c4 : w.cell? ⟨b, 4, none⟩ = some (.bool false) := by simp [World.cell?, hb, hgone]
 have c1 : w.cell? ⟨b, 1, none⟩ = some (.map (some mb)) := by simp [World.cell?, hb]
 have hv := hV.val y (getF_mem hy) (by simp)
 rw [getF_name hy] at hv
 obtain ⟨p, cap, hp, -⟩ := own_len hv
 have hr : ∀ x, Bel w x → (Instr.lookup 111 (.map (some mb)) (.string s) true).run Tryz.prog x = .ok (.tuple #[.agg #[.slice p y.bytes.length cap, .int .i64 y.safe], .bool true]) x := fun x hx => by
  have := run_look_some (hV.bel hx) s hs hy true
  rw [this, hp]; rfl
 have HR := Lib.hid hr
 rw [hp]
 unfold conV
 have hbl := block_lt_of_cell c4
 clear hb hgone hy hV hv hr hp
 go_enter Tryz.func119, Tryz.ntmps119
 go_wp2_with (at_lookup; refine wpList_look (HR.out _ ((Bel.refl w).alloc _)) rfl _ _ rfl rfl rfl ?_)
 exact bodyPost_ret (v := .tuple #[.agg #[.slice p y.bytes.length cap, .int .i64 y.safe], .int .i64 0]) (by simp [results, Tryz.results119, go_sem]) rfl ⟨rfl, ((Bel.refl w).alloc _).alloc _⟩

def getS (nm : List UInt8) (M : RS) : List UInt8 × Int := if M.gone then ([], 7) else match getF nm M.L with
 | some y => (y.bytes, 0)
 | none => ([], 4)
theorem conv_none (x : World) : (convert 114 9 (.slice none 0 0)).run Tryz.prog x = .ok (.string ⟨#[]⟩) x := own_string (Own.nil 0 x)
set_option maxHeartbeats 2000000 in
theorem pget_any (n₀ : Nat) (w : World) (b : Nat) (M : RS) (F : List Nat) (s : ByteArray) (h : ProgAt n₀ w b M F) (hs : s.size ≤ maxLen) :
  Calls Tryz.prog 118 #[.pointer (some ⟨b, 0, none⟩), .string s] w fun e w' =>
   e = .returned (.tuple #[.string ⟨(getS s.data.toList M).1.toArray⟩, .int .i64 (getS s.data.toList M).2]) ∧ Bel w w' := by
 have HP := Lib.hid h
 obtain ⟨⟨mv, t, hb, _, _, hf⟩, -⟩ := h
 cases hg : M.gone with
 | true =>
  have HG := Lib.hid (show getS s.data.toList M = ([], 7) by unfold getS; rw [hg]; rfl)
  have hc := conv_none
  have HG1 := Lib.hid hg
  clear hb hf hg
  go_enter Tryz.func118, Tryz.ntmps118
  go_wp2_with (fail)
  refine (find_gone n₀ _ b M F s HP.out HG1.out).mono ?_
  rintro e w1 ⟨rfl, hbl⟩
  have HB := Lib.hid hbl
  clear hbl
  unfold conZ
  go_wp2_with (fail)
  go_ret2
  exact ⟨by rw [HG.out]; rfl, HB.out.alloc _⟩
 | false =>
  cases hy : getF s.data.toList M.L with
  | none =>
   have HG := Lib.hid (show getS s.data.toList M = ([], 4) by unfold getS; rw [hg, hy]; rfl)
   have hc := conv_none
   have HG1 := Lib.hid hg
   have HY := Lib.hid hy
   clear hb hf hg hy
   go_enter Tryz.func118, Tryz.ntmps118
   go_wp2_with (fail)
   refine (find_none n₀ _ b M F s HP.out HG1.out hs HY.out).mono ?_
   rintro e w1 ⟨rfl, hbl⟩
   have HB := Lib.hid hbl
   clear hbl
   unfold conZ
   go_wp2_with (fail)
   go_ret2
   exact ⟨by rw [HG.out]; rfl, HB.out.alloc _⟩
  | some y =>
   rcases hf with ⟨_, hL⟩ | ⟨mb, D, V, rfl, hV, _⟩
   ·rw [hL] at hy; cases hy
   have HG := Lib.hid (show getS s.data.toList M = (y.bytes, 0) by unfold getS; rw [hg, hy]; rfl)
   have HC := Lib.hid (find_some n₀ w b M mb t D V s y hb hV hg hs hy)
   have hv := hV.val y (getF_mem hy) (by simp)
   rw [getF_name hy] at hv
   obtain ⟨p, cap, hp, -⟩ := own_len hv
   rw [hp] at hv HC
   have HV := Lib.hid hv
   unfold conV at HC
   clear hb hV hg hy hp hv
   go_enter Tryz.func118, Tryz.ntmps118
   go_wp2_with (fail)
   refine HC.out.mono ?_
   rintro e w1 ⟨rfl, hbl⟩
   have HB := Lib.hid hbl
   clear hbl
   have hc : ∀ o, (convert 114 9 (.slice p y.bytes.length cap)).run Tryz.prog (w1.alloc o) = .ok (.string ⟨y.bytes.toArray⟩) (w1.alloc o) := fun o => own_string (HV.out.bel (HB.out.alloc o))
   go_wp2_with (fail)
   go_ret2
   exact ⟨by rw [HG.out]; rfl, HB.out.alloc _⟩

def usedL (left : Lit → Bool) : List FI → Nat
 | [] => 0
 | x :: L => (if left (.string x.name) = true then 0 else x.bytes.length) + usedL left L
theorem used_start {left : Lit → Bool} {L : List FI} (h : ∀ x ∈ L, left (.string x.name) = true) : usedL left L = 0 := by
 induction L with
 | nil => rfl
 | cons x L ih => rw [usedL, if_pos (h x (by simp)), ih (fun y hy => h y (by simp [hy]))]
theorem used_end {left : Lit → Bool} (h : ∀ k, left k = false) (L : List FI) : usedL left L = bytesN L := by
 induction L with
 | nil => rfl
 | cons x L ih => rw [usedL, bytesN, ih, h]; rfl
theorem used_le (left : Lit → Bool) (L : List FI) : usedL left L ≤ bytesN L := by
 induction L with
 | nil => exact Nat.le_refl _
 | cons x L ih => rw [usedL, bytesN]; split <;> omega
theorem used_same {left left' : Lit → Bool} {L : List FI} (h : ∀ x ∈ L, left (.string x.name) = left' (.string x.name)) : usedL left L = usedL left' L := by
 induction L with
 | nil => rfl
 | cons x L ih => rw [usedL, usedL, h x (by simp), ih (fun y hy => h y (by simp [hy]))]
theorem used_step {left : Lit → Bool} {L : List FI} (hs : Srt L) {y : FI} (hy : y ∈ L) (hl : left (.string y.name) = true) :
  usedL (fun z => left z && !z.sameKey (.string y.name)) L = usedL left L + y.bytes.length := by
 induction L with
 | nil => cases hy
 | cons x L ih =>
  rw [srt_cons] at hs
  rw [usedL, usedL]
  rcases List.mem_cons.1 hy with rfl | hy'
  ·have e : usedL (fun z => left z && !z.sameKey (.string y.name)) L = usedL left L := used_same fun z hz => by
    have hne : z.name ≠ y.name := fun e => bl_ne (hs.1 z hz) e.symm
    simp [Lit.sameKey, hne]
   rw [e, hl]
   simp [Lit.sameKey]
   omega
  ·have hne : x.name ≠ y.name := bl_ne (hs.1 y hy')
   rw [ih hs.2 hy']
   simp [Lit.sameKey, hne]
   omega
theorem wpList_next_files {n₀ : Nat} {w : World} {mb : Nat} {D : DataW Value} {V : List UInt8 → Value} {L : List FI} {w₀ : World} (hV : FilesV n₀ w₀ mb D V L none) {ops : Array Oper} {rest : List Oper} {o : Oper} {a : Act} {Q : Exit → Act → World → Prop}
  (hg : o.guard = none) (it : Operand) (hop : o.op = Op.next it false) {r n : Nat} {left : Lit → Bool} {cnt : Nat} (hit : a.eval it = .pointer (some ⟨r, 0, none⟩)) (h : w.ranges Tryz.prog 9 RV mb r n D left cnt)
  (hDone : (∀ kl, left kl = false) → wpList Tryz.prog ops Q rest (a.put o.dst (.tuple #[.bool false])) w)
  (hMore : ∀ (y : FI) (p : Option Addr) (cap : Nat) (w' : World) (cnt' : Nat), y ∈ L → left (.string y.name) = true → w'.ranges Tryz.prog 9 RV mb r n D (fun z => left z && !z.sameKey (.string y.name)) cnt' → cnt' < cnt → w.grownBy w' (some r) →
   (Instr.entry (.pointer (some ⟨r, 0, none⟩))).run Tryz.prog w' = .ok (.tuple #[.string ⟨y.name.toArray⟩, .agg #[.slice p y.bytes.length cap, .int .i64 y.safe]]) w' →
   wpList Tryz.prog ops Q rest (a.put o.dst (.tuple #[.bool true, .string ⟨y.name.toArray⟩, .agg #[.slice p y.bytes.length cap, .int .i64 y.safe]])) w') :
  wpList Tryz.prog ops Q (o :: rest) a w := by
 refine wpList_next_ranges w hg it hop 9 keyLaw RV encStr id (fun key kl hk => by obtain ⟨x, hx, _⟩ := Maps.keyOf_str Tryz.underlying9 hk; exact ⟨x, hx⟩) (fun v y hv => ⟨v, rfl⟩) mb r n D left cnt hit h (fun _ hl => hDone hl) ?_
 intro x c kl y w' cnt' hkey hlk hv hat hrg hlt hgr hsz hen
 obtain ⟨x', ex, rfl, _⟩ := Maps.keyOf_str Tryz.underlying9 hkey
 obtain rfl : x = x' := encStr_inj ex
 have hh := Maps.has_true_of_atKey hat
 rw [hV.has] at hh
 obtain ⟨f, hf⟩ := Option.isSome_iff_exists.1 hh
 have hc := hat (.held conZ)
 rw [hV.at_some hf] at hc
 obtain ⟨y1, y2⟩ := y
 have := rv_held hv
 rw [this] at hc
 simp only [DataW.held.injEq, id_eq] at hc
 obtain rfl := getF_name hf
 have ho := hV.val f (getF_mem hf) (by simp)
 obtain ⟨p, cap, hp, -⟩ := own_len ho
 rw [hp] at hc
 rw [← hc] at hen ⊢
 exact hMore f p cap w' cnt' (getF_mem hf) hlk hrg hlt hgr hen
set_option maxHeartbeats 2000000 in
theorem pused_any (n₀ : Nat) (w : World) (b : Nat) (M : RS) (F : List Nat) (h : ProgAt n₀ w b M F) (hs : Srt M.L) (hB : bytesN M.L ≤ 1000000000) :
  Calls Tryz.prog 24 #[.pointer (some ⟨b, 0, none⟩)] w fun e w' => e = .returned (.int .i64 (bytesN M.L : Nat)) ∧ Bel w w' := by
 obtain ⟨⟨mv, t, hb, _, _, hf⟩, -⟩ := h
 have c1 : w.cell? ⟨b, 1, none⟩ = some mv := by simp [World.cell?, hb]
 clear hb
 rcases hf with ⟨rfl, hL⟩ | ⟨mb, D, V, rfl, hV, _⟩
 ·have HL := Lib.hid (show bytesN M.L = 0 by rw [hL]; rfl)
  clear hL
  have hrg := run_range_nilMap (P := Tryz.prog) w 111 9 116 Tryz.underlying111
  have hnx : ∀ ty, (Instr.next (.pointer (some ⟨w.heap.size, 0, none⟩)) false ty).run Tryz.prog (w.alloc (.mapIter none 0 #[] 0)) = _ := fun ty => run_next_nilMap w ty 0 0 #[]
  go_enter Tryz.func24, Tryz.ntmps24
  go_wp2
  refine wp_loop_rounds 1 ?_
  rw [rounds_succ]
  go_wp2
  go_ret
  exact ⟨by rw [HL.out]; rfl, (Bel.refl w).alloc _⟩
 ·have HV := Lib.hid hV
  have HS := Lib.hid hs
  have hown := Lib.hid hV.own
  have HH := Lib.hid (show ∀ x ∈ M.L, Maps.has D (.string x.name) = true from fun x hx => by rw [hV.has, getF_of_mem hs hx]; rfl)
  clear hV hs
  go_enter Tryz.func24, Tryz.ntmps24
  go_wp2_with (first
   | (at_range; refine wpList_range_own _ rfl _ 111 rfl 9 116 keyLaw Tryz.underlying111 RV mb _ D rfl hown.out ?_; intro w0 hrg0 hg0 hs0)
   | go_in)
  go_frame
  have HG0 := Lib.hid ((Keep.refl [] w).grown hg0 (fun r hr => by cases hr))
  have HR0 := Lib.hid hrg0
  clear hs0 hg0 hrg0
  go_loopw [3] (fun n x => ∃ (left : Lit → Bool) (cnt : Nat), x.ranges Tryz.prog 9 RV mb w.heap.size M.L.length D left cnt ∧ n = .int .i64 (usedL left M.L : Nat) ∧ Bel w x) (fun _ x => x.rangeLeft mb w.heap.size)
  case atStart => exact ⟨_, _, HR0.out, by rw [used_start HH.out]; rfl, HG0.out.bel (by simp)⟩
  case round =>
   obtain ⟨left, cnt, hrg, rfl, hbel⟩ := hrel
   have HRG := Lib.hid hrg
   have HB := Lib.hid hbel
   have HLE := Lib.hid (used_end (left := left) · M.L)
   clear hrg hbel
   go_wp2_with (first
    | (at_next; refine wpList_next_files HV.out rfl _ rfl rfl HRG.out ?_ ?_)
    | go_in)
   ·intro hl0
    go_wp2
    go_ret
    exact ⟨ret_int (by rw [HLE.out hl0]), HB.out⟩
   ·intro y p cap w1 cnt1 hy hlx hrg1 hlt hg1 hen
    have HRG1 := Lib.hid hrg1
    have HB1 := Lib.hid (HB.out.trans_below ((Below.refl _ _).grown hg1 (HRG.out.lt |> fun _ => HB.out.size) (fun k hk => by cases hk; exact Nat.le_refl _) |>.mono (Nat.le_refl _)))
    have HST := Lib.hid (used_step HS.out hy hlx)
    have hle := used_le (fun z => left z && !z.sameKey (.string y.name)) M.L
    rw [HST.out] at hle
    have HLT := Lib.hid hlt
    clear hrg1 hy hlx hg1 hlt
    generalize usedL left M.L = z at *
    go_wp2_with (fail)
    go_roundw
    case rel => exact ⟨_, cnt1, HRG1.out.alloc _, by rw [HST.out]; go_num, HB1.out.alloc _⟩
    case measure => rw [(HRG1.out.alloc _).left_eq, HRG.out.left_eq]; exact HLT.out

def strEl : El (List UInt8) := ⟨9, 71, 1, fun l => [.string ⟨l.toArray⟩]⟩
theorem strOk : ElOk strEl 16 := ⟨fun _ => rfl, fun a u hu => by simp [strEl] at hu; subst hu; rfl, by kernel_rfl, ⟨.string ⟨#[]⟩, by kernel_rfl, rfl⟩, by decide⟩
theorem str_all (L : List (List UInt8)) : strEl.all L = L.map encStr := by
 induction L with
 | nil => rfl
 | cons x L ih => simp only [El.all, List.flatMap_cons, List.map_cons] at *; rw [ih]; rfl
theorem names_sorted {L : List FI} (hs : Srt L) : (L.map (·.name)).Pairwise (fun a b => decide (a ≤ b) = true) := by
 rw [List.pairwise_map]
 refine hs.imp fun h => ?_
 rw [bytesLess_eq, decide_eq_true_eq] at h
 rw [decide_eq_true_eq]
 exact List.le_of_lt h
theorem names_nodup {L : List FI} (hs : Srt L) : (L.map (·.name)).Nodup := by
 rw [List.Nodup, List.pairwise_map]
 exact hs.imp fun h => bl_ne h
theorem names_of_perm {n₀ : Nat} {w : World} {mb : Nat} {D : DataW Value} {V : List UInt8 → Value} {L : List FI} (hV : FilesV n₀ w mb D V L none) (hs : Srt L) {ss : List (List UInt8)} (hp : ss.Perm (strKeys D)) :
  ss.mergeSort (fun x y => decide (x ≤ y)) = L.map (·.name) := by
 obtain ⟨es, hD, hpw, _⟩ := hV.own.entries keyLaw
 obtain ⟨es', hD', hko⟩ := hV.own.keysOf
 obtain rfl : es = es' := by rw [hD] at hD'; simpa using hD'
 have h1 : (L.map (·.name)).Perm (strKeys D) := by
  rw [hD]
  refine perm_strKeys hpw (fun p hp => by obtain ⟨v, hv⟩ := hko p hp; obtain ⟨x, _, hx, _⟩ := Maps.keyOf_str Tryz.underlying9 hv; exact ⟨x, hx⟩) (names_nodup hs) (fun x => ?_)
  rw [← hD, hV.has]
  constructor
  ·intro hx
   obtain ⟨y, hy, rfl⟩ := List.mem_map.1 hx
   rw [getF_of_mem hs hy]; rfl
  ·intro hx
   obtain ⟨y, hy⟩ := Option.isSome_iff_exists.1 hx
   exact List.mem_map.2 ⟨y, getF_mem hy, getF_name hy⟩
 rw [mergeSort_of_perm (hp.trans h1.symm)]
 exact List.mergeSort_of_pairwise (names_sorted hs)
set_option maxHeartbeats 2000000 in
theorem pnames_any (n₀ : Nat) (w : World) (b : Nat) (M : RS) (F : List Nat) (h : ProgAt n₀ w b M F) (hs : Srt M.L) (hL : M.L.length ≤ 1000) :
  Calls Tryz.prog 27 #[.pointer (some ⟨b, 0, none⟩)] w fun e w' => ∃ v, e = .returned v ∧ OwnG strEl w.heap.size w' v (M.L.map (·.name)) ∧ Bel w w' := by
 obtain ⟨⟨mv, t, hb, _, _, hf⟩, -⟩ := h
 have c1 : w.cell? ⟨b, 1, none⟩ = some mv := by simp [World.cell?, hb]
 clear hb
 rcases hf with ⟨rfl, hL0⟩ | ⟨mb, D, V, rfl, hV, _⟩
 ·have HL := Lib.hid hL0
  clear hL0
  go_enter Tryz.func27, Tryz.ntmps27
  go_wp2_with (first
   | (go_at_call 49; refine (callsIn_wide.1 (Tryz.maps_Keys_49 _ _)).mono ?_; rintro e w' ⟨rfl, rfl⟩)
   | (go_at_call 48; refine (callsIn_wide.1 (Tryz.slices_Sorted_keys_nil_48_49 w)).mono ?_; rintro e w' ⟨v, ss, rfl, hS, hrow, hnil, hb⟩))
  go_ret
  have hv := hnil.2 hS
  refine ⟨v, rfl, ?_, ((Below.refl _ w).alloc (Nat.le_refl _) _).trans (hb.mono (by simp))⟩
  rw [HL.out, hv]
  exact OwnG.nil _ _ _
 ·have HV := Lib.hid hV
  have HS := Lib.hid hs
  have hown := hV.own
  have hmax : Maps.size D ≤ maxLen := by rw [hV.size]; unfold maxLen; omega
  have hbytes : Maps.size D * 16 ≤ 140737488355328 := by rw [hV.size]; omega
  clear hV hs
  go_enter Tryz.func27, Tryz.ntmps27
  go_wp2_with (first
   | (go_at_call 49; refine (callsIn_wide.1 (Tryz.maps_Keys_49 _ _)).mono ?_; rintro e w' ⟨rfl, rfl⟩)
   | (go_at_call 48; refine (callsIn_wide.1 (Tryz.slices_Sorted_keys_48_49 mb _ D RV w hown hmax hbytes)).mono ?_; rintro e w' ⟨v, ss, rfl, hS, hrow, hnil, hb⟩))
  go_ret
  refine ⟨v, rfl, ?_, ((Below.refl _ w).alloc (Nat.le_refl _) _).trans (hb.mono (by simp))⟩
  rw [names_of_perm HV.out HS.out hS] at hrow
  have hlen : ss.length = (M.L.map (·.name)).length := by
   rw [← names_of_perm HV.out HS.out hS, List.length_mergeSort]
  rw [hlen] at hrow
  have h2 : OwnG strEl (w.alloc (.cells #[.map (some mb)] 111)).heap.size w' v (M.L.map (·.name)) := by
   unfold OwnG
   rw [str_all]
   exact hrow
  exact h2.low (by simp)

theorem wrap_in {n : Int} (h1 : -9223372036854775808 ≤ n) (h2 : n ≤ 9223372036854775807) : IntKind.i64.wrap n = n := by
 rw [IntKind.wrap_i64]
 try unfold wrap64
 omega
def admS (nm : List UInt8) (size : Nat) (M : RS) : Int :=
 if M.gone then 7 else if nameB nm = false then 3 else if (getF nm M.L).isSome = false ∧ 60 ≤ M.L.length then 11 else if M.room < (bytesN M.L : Int) + size then 6 else 0
section
variable {n₀ : Nat} {w x : World} {b : Nat} {M : RS} {F : List Nat} {mv : Value} {L : List FI}
theorem run_look_any (h : FilesAt n₀ w mv L F) (s : ByteArray) (hs : s.size ≤ maxLen) (c : Bool) : ∃ p n cap f, ∀ x, Bel w x →
  (Instr.lookup 111 mv (.string s) true).run Tryz.prog x = .ok (.tuple #[.agg #[.slice p n cap, .int .i64 f], .bool (getF s.data.toList L).isSome]) x := by
 cases hy : getF s.data.toList L with
 | none => exact ⟨none, 0, 0, 0, fun x hx => run_look_none (h.bel hx) s hs hy true⟩
 | some y =>
  rcases h with ⟨rfl, rfl⟩ | ⟨mb, D, V, rfl, hV, _⟩
  ·cases hy
  have hv := hV.val y (getF_mem hy) (by simp)
  rw [getF_name hy] at hv
  obtain ⟨p, cap, hp, -⟩ := own_len hv
  refine ⟨p, y.bytes.length, cap, y.safe, fun x hx => ?_⟩
  rw [run_look_some (hV.bel hx) s hs hy true, hp]; rfl
theorem run_len_any (h : FilesAt n₀ w mv L F) : ∀ x, Bel w x → ∀ ty, (Builtin.len_ #[111] ty #[mv]).run Tryz.prog x = .ok (.int .i64 (L.length : Nat)) x := by
 intro x hx ty
 rcases h with ⟨rfl, rfl⟩ | ⟨mb, D, V, rfl, hV, _⟩
 ·exact Maps.len_nil Tryz.underlying111 ty
 ·rw [(hV.bel hx).own.len Tryz.underlying111 ty, hV.size]
end
set_option maxHeartbeats 4000000 in
theorem admits_any (n₀ : Nat) (w : World) (b : Nat) (M : RS) (F : List Nat) (s : ByteArray) (k : Nat) (h : ProgAt n₀ w b M F) (hs : s.size ≤ 1000000) (hk : k ≤ 1000000) (hS : Srt M.L) (hB : bytesN M.L ≤ 1000000000) (hL : M.L.length ≤ 1000) (hroom : 0 ≤ M.room ∧ M.room ≤ 10000000) :
    Calls Tryz.prog 60 #[.pointer (some ⟨b, 0, none⟩), .string s, .int .i64 k] w fun e w' => e = .returned (.int .i64 (admS s.data.toList k M)) ∧ Bel w w' := by
  have HP := Lib.hid h
  obtain ⟨⟨mv, t, hb, _, _, hf⟩, -⟩ := h
  have c0 : w.cell? ⟨b, 0, none⟩ = some (.int .i64 M.room) := by simp [World.cell?, hb]
  have c1 : w.cell? ⟨b, 1, none⟩ = some mv := by simp [World.cell?, hb]
  have c4 : w.cell? ⟨b, 4, none⟩ = some (.bool M.gone) := by simp [World.cell?, hb]
  have hbl := block_lt_of_cell c0
  have hsm := Lib.hid (show s.size ≤ maxLen by unfold maxLen; omega)
  obtain ⟨p, n, cap, f, hlk⟩ := run_look_any hf s hsm.out true
  have HLK := Lib.hid hlk
  have HLN := Lib.hid (run_len_any hf)
  have HSR := Lib.hid hS
  obtain ⟨hr1, hr2⟩ := hroom
  clear hb hf hlk hS
  have W1 := Lib.hid ((Bel.refl w).alloc (.cells #[.slice p n cap, .int .i64 f] 116))
  cases hg : M.gone with
  | true =>
    have HA := Lib.hid (show admS s.data.toList k M = 7 by unfold admS; rw [if_pos hg])
    rw [hg] at c4
    clear hg
    go_enter Tryz.func60, Tryz.ntmps60
    go_wp2_with (at_lookup; refine wpList_look (HLK.out _ (Bel.refl _)) rfl _ _ rfl rfl rfl ?_)
    go_ret
    exact ⟨ret_int (by rw [HA.out]), (Bel.refl w).alloc _⟩
  | false =>
    rw [hg] at c4
    cases hn : nameB s.data.toList with
    | false =>
      have HA := Lib.hid (show admS s.data.toList k M = 3 by unfold admS; rw [hg, hn]; rfl)
      have HN := Lib.hid hn
      clear hg hn
      go_enter Tryz.func60, Tryz.ntmps60
      go_wp2_with (first
        | (at_lookup; refine wpList_look (HLK.out _ (Bel.refl _)) rfl _ _ rfl rfl rfl ?_)
        | (go_at_call 97; refine (isname_any s _ hsm.out).mono ?_; rintro e w1 ⟨rfl, hd⟩; rw [HN.out]; have HD := Lib.hid hd; clear hd))
      go_ret
      exact ⟨ret_int (by rw [HA.out]), W1.out.trans HD.out.bel⟩
    | true =>
      have HN := Lib.hid hn
      by_cases hm : (getF s.data.toList M.L).isSome = false ∧ 60 ≤ M.L.length
      · have HA := Lib.hid (show admS s.data.toList k M = 11 by unfold admS; rw [hg, hn, if_pos hm]; rfl)
        obtain ⟨hm1, hm2⟩ := hm
        rw [hm1] at HLK
        clear hg hn hm1
        go_enter Tryz.func60, Tryz.ntmps60
        go_wp2_with (first
          | (at_lookup; refine wpList_look (HLK.out _ (Bel.refl _)) rfl _ _ rfl rfl rfl ?_)
          | (go_at_call 97; refine (isname_any s _ hsm.out).mono ?_; rintro e w1 ⟨rfl, hd⟩; rw [HN.out]
             have HD := Lib.hid (W1.out.trans hd.bel)
             have hln := HLN.out _ HD.out
             have c1' := cell_later HD.out c1
             have c4' := cell_later HD.out c4
             clear hd))
        go_ret
        exact ⟨ret_int (by rw [HA.out]), HD.out⟩
      · have hroad : (getF s.data.toList M.L).isSome = true ∨ ((getF s.data.toList M.L).isSome = false ∧ M.L.length < 60) := by
          cases hi : (getF s.data.toList M.L).isSome with
          | true => exact Or.inl rfl
          | false => exact Or.inr ⟨rfl, by rw [hi] at hm; simp at hm; exact hm⟩
        by_cases hfull : M.room < (bytesN M.L : Int) + k
        · have HA := Lib.hid (show admS s.data.toList k M = 6 by unfold admS; rw [hg, hn, if_neg hm, if_pos hfull]; rfl)
          have hf2 : M.room - (bytesN M.L : Int) < (k : Int) := by omega
          clear hg hn hm
          rcases hroad with hi | ⟨hi, hlt⟩
          · rw [hi] at HLK
            clear hi
            go_enter Tryz.func60, Tryz.ntmps60
            go_wp2_with (first
              | (at_lookup; refine wpList_look (HLK.out _ (Bel.refl _)) rfl _ _ rfl rfl rfl ?_)
              | (go_at_call 97; refine (isname_any s _ hsm.out).mono ?_; rintro e w1 ⟨rfl, hd⟩; rw [HN.out]
                 have HD := Lib.hid (W1.out.trans hd.bel)
                 have hln := HLN.out _ HD.out
                 have c0' := cell_later HD.out c0
                 have c1' := cell_later HD.out c1
                 have c4' := cell_later HD.out c4
                 clear hd))
            have hwr : IntKind.i64.wrap (M.room - (bytesN M.L : Int)) = M.room - (bytesN M.L : Int) := wrap_in (by omega) (by omega)
            refine wp_region_held_drew (S := fun y => y.cell? ⟨b, 0, none⟩ = some (.int .i64 M.room)) (by kernel_rfl) c0' (fun hHeld => ?_)
            refine tq ⟨some 39, .move (.tmp 2), 3, "file.go:52", #[], none⟩ ?_ 0 rfl ?_ ?_;rotate_left;·(intros;go_simp<;>with_reducible rfl)
            try simp only[Act.put,sqA,sqB,sqC]
            refine tq ⟨some 40, .move (.tmp 0), 55, "file.go:52", #[], none⟩ ?_ 1 rfl ?_ ?_;rotate_left;·(intros;go_simp<;>with_reducible rfl)
            try simp only[Act.put,sqA,sqB,sqC]
            refine tq ⟨some 41, .nilCheck (.tmp 40), 0, "file.go:52", #[⟨1, .data⟩], none⟩ ?_ 2 rfl ?_ ?_;rotate_left;·(intros;go_simp<;>with_reducible rfl)
            try simp only[Act.put,sqA,sqB,sqC]
            refine tq ⟨some 42, .fieldAddr 113 (.tmp 41) 0, 0, "file.go:52", #[⟨2, .data⟩], none⟩ ?_ 3 rfl ?_ ?_;rotate_left;·(intros;go_simp<;>with_reducible rfl)
            try simp only[Act.put,sqA,sqB,sqC]
            refine tq ⟨some 43, .load 3 (.tmp 42), 3, "file.go:52", #[⟨3, .data⟩], none⟩ ?_ 4 rfl ?_ ?_;rotate_left;·(intros;go_simp<;>with_reducible rfl)
            try simp only[Act.put,sqA,sqB,sqC]
            refine tq ⟨some 44, .move (.tmp 0), 55, "file.go:52", #[], none⟩ ?_ 5 rfl ?_ ?_;rotate_left;·(intros;go_simp<;>with_reducible rfl)
            try simp only[Act.put,sqA,sqB,sqC]
            refine wpAnyH_ready (rs := [6]) (by kernel_rfl) (by simp) ?_
            refine ar1 ⟨some 45, .call ⟨.value (.func 24), #[.tmp 44], #[55]⟩, 3, "file.go:52", #[⟨5, .data⟩], none⟩ rfl (fun K hK => ?_)
            go_simp
            refine (pused_any n₀ _ b M F (HP.out.bel HD.out.drew) HSR.out hB).mono ?_
            rintro e w2 ⟨rfl, hb2⟩
            have d0 := cell_later hb2 (show w1.drew.cell? ⟨b, 0, none⟩ = _ from c0')
            have D1 := Lib.hid (HD.out.drew.trans hb2)
            clear hb2
            dsimp only
            refine hK.out _ _ d0 (fun hHeld => ?_);clear hK K;try simp only[Act.put,sqA,sqB,sqC]
            refine tq ⟨some 46, .binOp .sub 3 (.tmp 43) (.tmp 45) 3, 3, "file.go:52", #[⟨4, .data⟩, ⟨6, .data⟩], none⟩ ?_ 7 rfl ?_ ?_;rotate_left;·(intros;go_simp<;>with_reducible rfl)
            try simp only[Act.put,sqA,sqB,sqC]
            refine tq ⟨some 47, .binOp .gtr 3 (.tmp 39) (.tmp 46) 3, 4, "file.go:52", #[⟨0, .data⟩, ⟨7, .data⟩], none⟩ ?_ 8 rfl ?_ ?_;rotate_left;·(intros;go_simp<;>with_reducible rfl)
            try simp only[Act.put,sqA,sqB,sqC]
            refine tq ⟨some 38, .assign (.tmp 47), 4, "file.go:52", #[⟨8, .data⟩, ⟨6, .chain⟩], none⟩ ?_ 9 rfl ?_ ?_;rotate_left;·(intros;go_simp<;>with_reducible rfl)
            try simp only[Act.put,sqA,sqB,sqC]
            refine wpAnyH_done (by kernel_rfl) ?_ _
            go_wp2_with (fail)
            go_ret
            exact ⟨ret_int (by rw [HA.out]), D1.out⟩
          · rw [hi] at HLK
            clear hi
            go_enter Tryz.func60, Tryz.ntmps60
            go_wp2_with (first
              | (at_lookup; refine wpList_look (HLK.out _ (Bel.refl _)) rfl _ _ rfl rfl rfl ?_)
              | (go_at_call 97; refine (isname_any s _ hsm.out).mono ?_; rintro e w1 ⟨rfl, hd⟩; rw [HN.out]
                 have HD := Lib.hid (W1.out.trans hd.bel)
                 have hln := HLN.out _ HD.out
                 have c0' := cell_later HD.out c0
                 have c1' := cell_later HD.out c1
                 have c4' := cell_later HD.out c4
                 clear hd))
            have hwr : IntKind.i64.wrap (M.room - (bytesN M.L : Int)) = M.room - (bytesN M.L : Int) := wrap_in (by omega) (by omega)
            refine wp_region_held_drew (S := fun y => y.cell? ⟨b, 0, none⟩ = some (.int .i64 M.room)) (by kernel_rfl) c0' (fun hHeld => ?_)
            refine tq ⟨some 39, .move (.tmp 2), 3, "file.go:52", #[], none⟩ ?_ 0 rfl ?_ ?_;rotate_left;·(intros;go_simp<;>with_reducible rfl)
            try simp only[Act.put,sqA,sqB,sqC]
            refine tq ⟨some 40, .move (.tmp 0), 55, "file.go:52", #[], none⟩ ?_ 1 rfl ?_ ?_;rotate_left;·(intros;go_simp<;>with_reducible rfl)
            try simp only[Act.put,sqA,sqB,sqC]
            refine tq ⟨some 41, .nilCheck (.tmp 40), 0, "file.go:52", #[⟨1, .data⟩], none⟩ ?_ 2 rfl ?_ ?_;rotate_left;·(intros;go_simp<;>with_reducible rfl)
            try simp only[Act.put,sqA,sqB,sqC]
            refine tq ⟨some 42, .fieldAddr 113 (.tmp 41) 0, 0, "file.go:52", #[⟨2, .data⟩], none⟩ ?_ 3 rfl ?_ ?_;rotate_left;·(intros;go_simp<;>with_reducible rfl)
            try simp only[Act.put,sqA,sqB,sqC]
            refine tq ⟨some 43, .load 3 (.tmp 42), 3, "file.go:52", #[⟨3, .data⟩], none⟩ ?_ 4 rfl ?_ ?_;rotate_left;·(intros;go_simp<;>with_reducible rfl)
            try simp only[Act.put,sqA,sqB,sqC]
            refine tq ⟨some 44, .move (.tmp 0), 55, "file.go:52", #[], none⟩ ?_ 5 rfl ?_ ?_;rotate_left;·(intros;go_simp<;>with_reducible rfl)
            try simp only[Act.put,sqA,sqB,sqC]
            refine wpAnyH_ready (rs := [6]) (by kernel_rfl) (by simp) ?_
            refine ar1 ⟨some 45, .call ⟨.value (.func 24), #[.tmp 44], #[55]⟩, 3, "file.go:52", #[⟨5, .data⟩], none⟩ rfl (fun K hK => ?_)
            go_simp
            refine (pused_any n₀ _ b M F (HP.out.bel HD.out.drew) HSR.out hB).mono ?_
            rintro e w2 ⟨rfl, hb2⟩
            have d0 := cell_later hb2 (show w1.drew.cell? ⟨b, 0, none⟩ = _ from c0')
            have D1 := Lib.hid (HD.out.drew.trans hb2)
            clear hb2
            dsimp only
            refine hK.out _ _ d0 (fun hHeld => ?_);clear hK K;try simp only[Act.put,sqA,sqB,sqC]
            refine tq ⟨some 46, .binOp .sub 3 (.tmp 43) (.tmp 45) 3, 3, "file.go:52", #[⟨4, .data⟩, ⟨6, .data⟩], none⟩ ?_ 7 rfl ?_ ?_;rotate_left;·(intros;go_simp<;>with_reducible rfl)
            try simp only[Act.put,sqA,sqB,sqC]
            refine tq ⟨some 47, .binOp .gtr 3 (.tmp 39) (.tmp 46) 3, 4, "file.go:52", #[⟨0, .data⟩, ⟨7, .data⟩], none⟩ ?_ 8 rfl ?_ ?_;rotate_left;·(intros;go_simp<;>with_reducible rfl)
            try simp only[Act.put,sqA,sqB,sqC]
            refine tq ⟨some 38, .assign (.tmp 47), 4, "file.go:52", #[⟨8, .data⟩, ⟨6, .chain⟩], none⟩ ?_ 9 rfl ?_ ?_;rotate_left;·(intros;go_simp<;>with_reducible rfl)
            try simp only[Act.put,sqA,sqB,sqC]
            refine wpAnyH_done (by kernel_rfl) ?_ _
            go_wp2_with (fail)
            go_ret
            exact ⟨ret_int (by rw [HA.out]), D1.out⟩
        · have HA := Lib.hid (show admS s.data.toList k M = 0 by unfold admS; rw [hg, hn, if_neg hm, if_neg hfull]; rfl)
          have hf2 : ¬ (M.room - (bytesN M.L : Int) < (k : Int)) := by omega
          clear hg hn hm
          rcases hroad with hi | ⟨hi, hlt⟩
          · rw [hi] at HLK
            clear hi
            go_enter Tryz.func60, Tryz.ntmps60
            go_wp2_with (first
              | (at_lookup; refine wpList_look (HLK.out _ (Bel.refl _)) rfl _ _ rfl rfl rfl ?_)
              | (go_at_call 97; refine (isname_any s _ hsm.out).mono ?_; rintro e w1 ⟨rfl, hd⟩; rw [HN.out]
                 have HD := Lib.hid (W1.out.trans hd.bel)
                 have hln := HLN.out _ HD.out
                 have c0' := cell_later HD.out c0
                 have c1' := cell_later HD.out c1
                 have c4' := cell_later HD.out c4
                 clear hd))
            have hwr : IntKind.i64.wrap (M.room - (bytesN M.L : Int)) = M.room - (bytesN M.L : Int) := wrap_in (by omega) (by omega)
            refine wp_region_held_drew (S := fun y => y.cell? ⟨b, 0, none⟩ = some (.int .i64 M.room)) (by kernel_rfl) c0' (fun hHeld => ?_)
            refine tq ⟨some 39, .move (.tmp 2), 3, "file.go:52", #[], none⟩ ?_ 0 rfl ?_ ?_;rotate_left;·(intros;go_simp<;>with_reducible rfl)
            try simp only[Act.put,sqA,sqB,sqC]
            refine tq ⟨some 40, .move (.tmp 0), 55, "file.go:52", #[], none⟩ ?_ 1 rfl ?_ ?_;rotate_left;·(intros;go_simp<;>with_reducible rfl)
            try simp only[Act.put,sqA,sqB,sqC]
            refine tq ⟨some 41, .nilCheck (.tmp 40), 0, "file.go:52", #[⟨1, .data⟩], none⟩ ?_ 2 rfl ?_ ?_;rotate_left;·(intros;go_simp<;>with_reducible rfl)
            try simp only[Act.put,sqA,sqB,sqC]
            refine tq ⟨some 42, .fieldAddr 113 (.tmp 41) 0, 0, "file.go:52", #[⟨2, .data⟩], none⟩ ?_ 3 rfl ?_ ?_;rotate_left;·(intros;go_simp<;>with_reducible rfl)
            try simp only[Act.put,sqA,sqB,sqC]
            refine tq ⟨some 43, .load 3 (.tmp 42), 3, "file.go:52", #[⟨3, .data⟩], none⟩ ?_ 4 rfl ?_ ?_;rotate_left;·(intros;go_simp<;>with_reducible rfl)
            try simp only[Act.put,sqA,sqB,sqC]
            refine tq ⟨some 44, .move (.tmp 0), 55, "file.go:52", #[], none⟩ ?_ 5 rfl ?_ ?_;rotate_left;·(intros;go_simp<;>with_reducible rfl)
            try simp only[Act.put,sqA,sqB,sqC]
            refine wpAnyH_ready (rs := [6]) (by kernel_rfl) (by simp) ?_
            refine ar1 ⟨some 45, .call ⟨.value (.func 24), #[.tmp 44], #[55]⟩, 3, "file.go:52", #[⟨5, .data⟩], none⟩ rfl (fun K hK => ?_)
            go_simp
            refine (pused_any n₀ _ b M F (HP.out.bel HD.out.drew) HSR.out hB).mono ?_
            rintro e w2 ⟨rfl, hb2⟩
            have d0 := cell_later hb2 (show w1.drew.cell? ⟨b, 0, none⟩ = _ from c0')
            have D1 := Lib.hid (HD.out.drew.trans hb2)
            clear hb2
            dsimp only
            refine hK.out _ _ d0 (fun hHeld => ?_);clear hK K;try simp only[Act.put,sqA,sqB,sqC]
            refine tq ⟨some 46, .binOp .sub 3 (.tmp 43) (.tmp 45) 3, 3, "file.go:52", #[⟨4, .data⟩, ⟨6, .data⟩], none⟩ ?_ 7 rfl ?_ ?_;rotate_left;·(intros;go_simp<;>with_reducible rfl)
            try simp only[Act.put,sqA,sqB,sqC]
            refine tq ⟨some 47, .binOp .gtr 3 (.tmp 39) (.tmp 46) 3, 4, "file.go:52", #[⟨0, .data⟩, ⟨7, .data⟩], none⟩ ?_ 8 rfl ?_ ?_;rotate_left;·(intros;go_simp<;>with_reducible rfl)
            try simp only[Act.put,sqA,sqB,sqC]
            refine tq ⟨some 38, .assign (.tmp 47), 4, "file.go:52", #[⟨8, .data⟩, ⟨6, .chain⟩], none⟩ ?_ 9 rfl ?_ ?_;rotate_left;·(intros;go_simp<;>with_reducible rfl)
            try simp only[Act.put,sqA,sqB,sqC]
            refine wpAnyH_done (by kernel_rfl) ?_ _
            go_wp2_with (fail)
            go_ret
            exact ⟨ret_int (by rw [HA.out]), D1.out⟩
          · rw [hi] at HLK
            clear hi
            go_enter Tryz.func60, Tryz.ntmps60
            go_wp2_with (first
              | (at_lookup; refine wpList_look (HLK.out _ (Bel.refl _)) rfl _ _ rfl rfl rfl ?_)
              | (go_at_call 97; refine (isname_any s _ hsm.out).mono ?_; rintro e w1 ⟨rfl, hd⟩; rw [HN.out]
                 have HD := Lib.hid (W1.out.trans hd.bel)
                 have hln := HLN.out _ HD.out
                 have c0' := cell_later HD.out c0
                 have c1' := cell_later HD.out c1
                 have c4' := cell_later HD.out c4
                 clear hd))
            have hwr : IntKind.i64.wrap (M.room - (bytesN M.L : Int)) = M.room - (bytesN M.L : Int) := wrap_in (by omega) (by omega)
            refine wp_region_held_drew (S := fun y => y.cell? ⟨b, 0, none⟩ = some (.int .i64 M.room)) (by kernel_rfl) c0' (fun hHeld => ?_)
            refine tq ⟨some 39, .move (.tmp 2), 3, "file.go:52", #[], none⟩ ?_ 0 rfl ?_ ?_;rotate_left;·(intros;go_simp<;>with_reducible rfl)
            try simp only[Act.put,sqA,sqB,sqC]
            refine tq ⟨some 40, .move (.tmp 0), 55, "file.go:52", #[], none⟩ ?_ 1 rfl ?_ ?_;rotate_left;·(intros;go_simp<;>with_reducible rfl)
            try simp only[Act.put,sqA,sqB,sqC]
            refine tq ⟨some 41, .nilCheck (.tmp 40), 0, "file.go:52", #[⟨1, .data⟩], none⟩ ?_ 2 rfl ?_ ?_;rotate_left;·(intros;go_simp<;>with_reducible rfl)
            try simp only[Act.put,sqA,sqB,sqC]
            refine tq ⟨some 42, .fieldAddr 113 (.tmp 41) 0, 0, "file.go:52", #[⟨2, .data⟩], none⟩ ?_ 3 rfl ?_ ?_;rotate_left;·(intros;go_simp<;>with_reducible rfl)
            try simp only[Act.put,sqA,sqB,sqC]
            refine tq ⟨some 43, .load 3 (.tmp 42), 3, "file.go:52", #[⟨3, .data⟩], none⟩ ?_ 4 rfl ?_ ?_;rotate_left;·(intros;go_simp<;>with_reducible rfl)
            try simp only[Act.put,sqA,sqB,sqC]
            refine tq ⟨some 44, .move (.tmp 0), 55, "file.go:52", #[], none⟩ ?_ 5 rfl ?_ ?_;rotate_left;·(intros;go_simp<;>with_reducible rfl)
            try simp only[Act.put,sqA,sqB,sqC]
            refine wpAnyH_ready (rs := [6]) (by kernel_rfl) (by simp) ?_
            refine ar1 ⟨some 45, .call ⟨.value (.func 24), #[.tmp 44], #[55]⟩, 3, "file.go:52", #[⟨5, .data⟩], none⟩ rfl (fun K hK => ?_)
            go_simp
            refine (pused_any n₀ _ b M F (HP.out.bel HD.out.drew) HSR.out hB).mono ?_
            rintro e w2 ⟨rfl, hb2⟩
            have d0 := cell_later hb2 (show w1.drew.cell? ⟨b, 0, none⟩ = _ from c0')
            have D1 := Lib.hid (HD.out.drew.trans hb2)
            clear hb2
            dsimp only
            refine hK.out _ _ d0 (fun hHeld => ?_);clear hK K;try simp only[Act.put,sqA,sqB,sqC]
            refine tq ⟨some 46, .binOp .sub 3 (.tmp 43) (.tmp 45) 3, 3, "file.go:52", #[⟨4, .data⟩, ⟨6, .data⟩], none⟩ ?_ 7 rfl ?_ ?_;rotate_left;·(intros;go_simp<;>with_reducible rfl)
            try simp only[Act.put,sqA,sqB,sqC]
            refine tq ⟨some 47, .binOp .gtr 3 (.tmp 39) (.tmp 46) 3, 4, "file.go:52", #[⟨0, .data⟩, ⟨7, .data⟩], none⟩ ?_ 8 rfl ?_ ?_;rotate_left;·(intros;go_simp<;>with_reducible rfl)
            try simp only[Act.put,sqA,sqB,sqC]
            refine tq ⟨some 38, .assign (.tmp 47), 4, "file.go:52", #[⟨8, .data⟩, ⟨6, .chain⟩], none⟩ ?_ 9 rfl ?_ ?_;rotate_left;·(intros;go_simp<;>with_reducible rfl)
            try simp only[Act.put,sqA,sqB,sqC]
            refine wpAnyH_done (by kernel_rfl) ?_ _
            go_wp2_with (fail)
            go_ret
            exact ⟨ret_int (by rw [HA.out]), D1.out⟩

def Hdr (w : World) (b : Nat) (M : RS) (mv : Value) (t : Int) : Prop :=
 w.heap[b]? = some (.cells #[.int .i64 M.room, mv, .bool (decide (0 ≤ M.turns)), .int .i64 t, .bool M.gone] 113 (0, 0)) ∧ (0 ≤ M.turns → t = M.turns) ∧ in64 t
theorem turnS_zero {M : RS} (h : M.turns = 0) : turnS M = (7, { M with gone := true }) := by unfold turnS; rw [if_pos h]
theorem turnS_pos {M : RS} (h : 0 < M.turns) : turnS M = (0, { M with turns := M.turns - 1 }) := by unfold turnS; rw [if_neg (by omega), if_pos h]
theorem turnS_neg {M : RS} (h : M.turns < 0) : turnS M = (0, M) := by unfold turnS; rw [if_neg (by omega), if_neg (by omega)]
set_option maxHeartbeats 2000000 in
theorem pturn_any (w : World) (b : Nat) (M : RS) (mv : Value) (t : Int) (g : Nat) (lb : Array Value) (h : Hdr w b M mv t) (R : World → Prop) (hcall : ∀ x : World, (callFunc g lb).run Tryz.prog x = .ok (.enter g lb) x)
  (hc : ∀ w1 t1, Hdr w1 b (turnS M).2 mv t1 → Keep [b] w w1 → Calls Tryz.prog g lb w1 fun e w' => e = .returned (.tuple #[]) ∧ R w') :
  Calls Tryz.prog 61 #[.pointer (some ⟨b, 0, none⟩), .func (.func g) #[] lb] w fun e w' => e = .returned (.int .i64 (turnS M).1) ∧
   (M.turns = 0 → Hdr w' b (turnS M).2 mv t ∧ Keep [b] w w') ∧ (M.turns ≠ 0 → R w') := by
 obtain ⟨hb, ht, h64⟩ := h
 have c2 : w.cell? ⟨b, 2, none⟩ = some (.bool (decide (0 ≤ M.turns))) := by simp [World.cell?, hb]
 have c3 : w.cell? ⟨b, 3, none⟩ = some (.int .i64 t) := by simp [World.cell?, hb]
 have c4 : w.cell? ⟨b, 4, none⟩ = some (.bool M.gone) := by simp [World.cell?, hb]
 have f3 : w.frozen? ⟨b, 3, none⟩ = false := by simp [World.frozen?, hb]
 have f4 : w.frozen? ⟨b, 4, none⟩ = false := by simp [World.frozen?, hb]
 have HB := Lib.hid hb
 have HC := Lib.hid hc
 have H64 := Lib.hid h64
 clear hc hb
 rcases Int.lt_trichotomy M.turns 0 with hz | hz | hz
 ·have hd : decide (0 ≤ M.turns) = false := by rw [decide_eq_false_iff_not]; omega
  rw [turnS_neg hz] at HC ⊢
  have HW := Lib.hid (HC.out w t ⟨HB.out, ht, h64⟩ (Keep.refl _ w))
  have HN := Lib.hid (show M.turns ≠ 0 by omega)
  rw [hd] at c2
  clear hd ht h64 hz
  go_enter Tryz.func61, Tryz.ntmps61
  go_wp2_with (fail)
  refine HW.out.mono ?_
  rintro e w1 ⟨rfl, hr⟩
  have HR := Lib.hid hr
  clear hr
  go_wp2_with (fail)
  go_ret
  exact ⟨rfl, fun h => absurd h HN.out, fun _ => HR.out⟩
 ·have hd : decide (0 ≤ M.turns) = true := by rw [decide_eq_true_eq]; omega
  have hD := Lib.hid hd
  rw [turnS_zero hz] at HC ⊢
  rw [hd] at c2
  have HZ := Lib.hid hz
  have hT := Lib.hid ht
  have ht0 : t = 0 := by rw [ht (by omega)]; exact hz
  subst ht0
  clear hd ht h64 hz
  go_enter Tryz.func61, Tryz.ntmps61
  go_wp2_with (fail)
  go_ret
  exact ⟨rfl, fun _ => ⟨⟨by rw [blk_set HB.out 4 _]; rfl, hT.out, H64.out⟩, keep_set w b 4 _⟩, fun h => absurd HZ.out h⟩
 ·have hd : decide (0 ≤ M.turns) = true := by rw [decide_eq_true_eq]; omega
  have hd' : decide (0 ≤ M.turns - 1) = true := by rw [decide_eq_true_eq]; omega
  rw [turnS_pos hz] at HC ⊢
  have ht0 : t = M.turns := ht (by omega)
  subst ht0
  obtain ⟨h1, h2⟩ := h64
  have HW := Lib.hid (HC.out (w.setCell ⟨b, 3, none⟩ (.int .i64 (M.turns - 1))) (M.turns - 1) ⟨by rw [blk_set HB.out 3 _]; simp only [hd, hd']; rfl, fun _ => rfl, by unfold in64; omega⟩ (keep_set w b 3 _))
  have HN := Lib.hid (show M.turns ≠ 0 by omega)
  have hne : (M.turns == 0) = false := by rw [beq_eq_false_iff_ne]; omega
  rw [hd] at c2
  clear hd hd' ht
  go_enter Tryz.func61, Tryz.ntmps61
  go_wp2_with (fail)
  refine HW.out.mono ?_
  rintro e w1 ⟨rfl, hr⟩
  have HR := Lib.hid hr
  clear hr
  go_wp2_with (fail)
  go_ret
  exact ⟨rfl, fun h => absurd h HN.out, fun _ => HR.out⟩

theorem cell_ne_map {w : World} {R : Value → Option (DataW Value × List MemPlace)} {k : TypeId} {mb n : Nat} {D : DataW Value} (h : w.ownsMap Tryz.prog k R mb n D) {B o : Nat} {v : Value} (hc : w.cell? ⟨B, o, none⟩ = some v) : B ≠ mb := by
 rintro rfl
 obtain ⟨es, clock, hm, _⟩ := h
 simp [World.cell?, hm] at hc
theorem step_store {ops : Array Oper} {o : Oper} {a : Act} {K : Act → World → Prop} {Q : Exit → Act → World → Prop} {E : Prop} {x : World} (hgd : o.guard = none) (m y v : Operand)
  (ho : o.op = Op.mapUpdate 111 m y v) {mb n : Nat} {D : DataW Value} {s : ByteArray} {val : Value} (hm : a.eval m = .map (some mb)) (hy : a.eval y = .string s) (hv : a.eval v = val)
  (hown : x.ownsMap Tryz.prog 9 RV mb n D) (hn : n ≤ 1000000) (hs : s.size ≤ maxLen)
  (h : ∀ w', w'.ownsMap Tryz.prog 9 RV mb (n + 1) (D.put (.string s.data.toList) (.held val)) → Keep [mb] x w' → K (a.put o.dst undef) w') : if Region.wanted o (yielded ops a.tmps) = true then o.wp Tryz.prog a x K Q else E := by
 rw [if_pos (by simp [Region.wanted, hgd])]
 obtain ⟨w', hrun, r1, r2⟩ := hown.store keyLaw Tryz.underlying111 (by unfold maxLen; omega) (key_is s hs) (rfl : RV val = some (.held val, []))
 unfold Oper.wp
 simp [execOp, ho, hm, hy, hv, hrun, Result.andThen]
 exact h w' r1 (keep_turned r2)
theorem step_del {ops : Array Oper} {o : Oper} {a : Act} {K : Act → World → Prop} {Q : Exit → Act → World → Prop} {E : Prop} {x : World} (hgd : o.guard = none) (m y : Operand)
  (ho : o.op = Op.call { callee := Callee.builtin Builtin.delete, args := #[m, y], argTypes := #[111, 9] }) {mb n : Nat} {D : DataW Value} {s : ByteArray} (hm : a.eval m = .map (some mb)) (hy : a.eval y = .string s)
  (hown : x.ownsMap Tryz.prog 9 RV mb n D) (hs : s.size ≤ maxLen)
  (h : ∀ w', w'.ownsMap Tryz.prog 9 RV mb n (D.del (.string s.data.toList)) → Keep [mb] x w' → K (a.put o.dst (.tuple #[])) w') : if Region.wanted o (yielded ops a.tmps) = true then o.wp Tryz.prog a x K Q else E := by
 rw [if_pos (by simp [Region.wanted, hgd])]
 obtain ⟨w', hrun, r1, r2⟩ := hown.drop keyLaw Tryz.underlying111 (key_is s hs) o.type
 unfold Oper.wp
 simp [execOp, ho, resolve, invoke, builtin, hm, hy, hrun, Result.andThen]
 exact h w' r1 (keep_turned r2)
def Chg (n₀ : Nat) (w x : World) (b : Nat) (M : RS) (mb : Nat) (t : Int) (V : List UInt8 → Value) (L L' : List FI) (G : List Nat) : Prop :=
 ∃ D' V', Hdr x b M (.map (some mb)) t ∧ FilesV n₀ x mb D' V' L' none ∧ Keep G w x ∧ ∀ z ∈ L', ∀ k, (V' z.name).ownBlock = some k → (∃ u ∈ L, (V u.name).ownBlock = some k) ∨ w.heap.size ≤ k
theorem Hdr.keep {w x : World} {b : Nat} {M : RS} {mv : Value} {t : Int} {G : List Nat} (h : Hdr w b M mv t) (hk : Keep G w x) (hb : b ∉ G) : Hdr x b M mv t := ⟨hk.at h.1 hb, h.2⟩
theorem Hdr.ne {w : World} {b : Nat} {M : RS} {mv : Value} {t : Int} {R : Value → Option (DataW Value × List MemPlace)} {k : TypeId} {mb n : Nat} {D : DataW Value} (h : Hdr w b M mv t) (ho : w.ownsMap Tryz.prog k R mb n D) : b ≠ mb := by
 rintro rfl
 obtain ⟨es, clock, hm, _⟩ := ho
 rw [h.1] at hm; cases hm
set_option maxHeartbeats 4000000 in
set_option maxRecDepth 20000 in
theorem flushcl_any (n₀ : Nat) (w : World) (b mb : Nat) (M : RS) (t : Int) (D : DataW Value) (V : List UInt8 → Value) (Bc Bf Bn : Nat) (s : ByteArray) (y : FI) (h : Hdr w b M (.map (some mb)) t) (hV : FilesV n₀ w mb D V M.L none) (hS : Srt M.L) (hL : M.L.length ≤ 1000)
  (hs : s.size ≤ maxLen) (hy : getF s.data.toList M.L = some y) {p : Option Addr} {n cap : Nat} (hp : V y.name = .slice p n cap) (hn : y.bytes.length = n)
  (e0 : w.cell? ⟨Bc, 0, none⟩ = some (.slice p n cap)) (e1 : w.cell? ⟨Bc, 1, none⟩ = some (.int .i64 y.safe)) (e2 : w.cell? ⟨Bf, 0, none⟩ = some (.pointer (some ⟨b, 0, none⟩))) (e3 : w.cell? ⟨Bn, 0, none⟩ = some (.string s)) :
  Calls Tryz.prog 120 #[.pointer (some ⟨Bc, 0, none⟩), .pointer (some ⟨Bf, 0, none⟩), .pointer (some ⟨Bn, 0, none⟩)] w fun e w' =>
   e = .returned (.tuple #[]) ∧ Chg n₀ w w' b M mb t V M.L (insS { y with safe := y.bytes.length } M.L) [mb] := by
 have e4 : w.cell? ⟨b, 1, none⟩ = some (.map (some mb)) := by simp [World.cell?, h.1]
 have hSK : ∀ G x z, Keep G x z → Bc ∉ G → Bf ∉ G → Bn ∉ G → b ∉ G →
   (x.cell? ⟨Bc, 0, none⟩ = some (.slice p n cap) ∧ x.cell? ⟨Bc, 1, none⟩ = some (.int .i64 y.safe) ∧ x.cell? ⟨Bf, 0, none⟩ = some (.pointer (some ⟨b, 0, none⟩)) ∧ x.cell? ⟨Bn, 0, none⟩ = some (.string s) ∧ x.cell? ⟨b, 1, none⟩ = some (.map (some mb))) →
   (z.cell? ⟨Bc, 0, none⟩ = some (.slice p n cap) ∧ z.cell? ⟨Bc, 1, none⟩ = some (.int .i64 y.safe) ∧ z.cell? ⟨Bf, 0, none⟩ = some (.pointer (some ⟨b, 0, none⟩)) ∧ z.cell? ⟨Bn, 0, none⟩ = some (.string s) ∧ z.cell? ⟨b, 1, none⟩ = some (.map (some mb))) :=
  fun G x z hk h1 h2 h3 h4 hc => ⟨hk.cell hc.1 h1, hk.cell hc.2.1 h1, hk.cell hc.2.2.1 h2, hk.cell hc.2.2.2.1 h3, hk.cell hc.2.2.2.2 h4⟩
 have HSK := Lib.hid hSK
 have N1 := cell_ne_map hV.own e0
 have N2 := cell_ne_map hV.own e2
 have N3 := cell_ne_map hV.own e3
 have N4 := h.ne hV.own
 have HV := Lib.hid hV
 have HH := Lib.hid h
 have HS := Lib.hid hS
 have HY := Lib.hid hy
 have HP := Lib.hid hp
 have HN := Lib.hid hn
 clear hSK hV h hS hy hp hn
 go_enter Tryz.func120, Tryz.ntmps120
 go_wp2_with (fail)
 refine wp_region_held_drew (S := fun z => (z.cell? ⟨Bc, 0, none⟩ = some (.slice p n cap) ∧ z.cell? ⟨Bc, 1, none⟩ = some (.int .i64 y.safe) ∧ z.cell? ⟨Bf, 0, none⟩ = some (.pointer (some ⟨b, 0, none⟩)) ∧ z.cell? ⟨Bn, 0, none⟩ = some (.string s) ∧ z.cell? ⟨b, 1, none⟩ = some (.map (some mb)))) (by kernel_rfl) ⟨e0, e1, e2, e3, e4⟩ (fun hHeld => ?_)
 refine tq ⟨some 3, .load 55 (.tmp 1), 55, "file.go:75", #[], none⟩ ?_ 0 rfl ?_ ?_;rotate_left;·(intros;go_simp<;>with_reducible rfl)
 try simp only[Act.put,sqA,sqB,sqC]
 refine tq ⟨some 4, .nilCheck (.tmp 3), 0, "file.go:75", #[⟨0, .data⟩], none⟩ ?_ 1 rfl ?_ ?_;rotate_left;·(intros;go_simp<;>with_reducible rfl)
 try simp only[Act.put,sqA,sqB,sqC]
 refine tq ⟨some 5, .fieldAddr 113 (.tmp 4) 1, 0, "file.go:75", #[⟨1, .data⟩], none⟩ ?_ 2 rfl ?_ ?_;rotate_left;·(intros;go_simp<;>with_reducible rfl)
 try simp only[Act.put,sqA,sqB,sqC]
 refine tq ⟨some 6, .load 111 (.tmp 5), 111, "file.go:75", #[⟨2, .data⟩], none⟩ ?_ 3 rfl ?_ ?_;rotate_left;·(intros;go_simp<;>with_reducible rfl)
 try simp only[Act.put,sqA,sqB,sqC]
 refine tq ⟨some 7, .load 9 (.tmp 2), 9, "file.go:75", #[], none⟩ ?_ 4 rfl ?_ ?_;rotate_left;·(intros;go_simp<;>with_reducible rfl)
 try simp only[Act.put,sqA,sqB,sqC]
 refine tq ⟨some 8, .load 116 (.tmp 0), 116, "file.go:75", #[], none⟩ ?_ 5 rfl ?_ ?_;rotate_left;·(intros;go_simp<;>with_reducible rfl)
 try simp only[Act.put,sqA,sqB,sqC]
 refine wpAnyH_ready (rs := [6]) (by kernel_rfl) (by simp) ?_
 refine ar1 ⟨some 9, .call ⟨.value (.func 92), #[.tmp 8], #[116]⟩, 116, "file.go:75", #[⟨5, .data⟩], none⟩ rfl (fun K hK => ?_)
 go_simp
 refine (saved_any _ p n cap y.safe).mono ?_
 rintro e w2 ⟨rfl, hb2⟩
 have D1 := Lib.hid (((Bel.refl w).drew).trans hb2)
 have S2 := HSK.out [] _ _ (Keep.of_bel hb2 []) (by simp) (by simp) (by simp) (by simp) hHeld
 clear hb2
 dsimp only
 refine hK.out _ _ S2 (fun hHeld2 => ?_)
 clear hK K
 try simp only[Act.put,sqA,sqB,sqC]
 refine wpAnyH_ready (rs := [7]) (by kernel_rfl) (by simp) ?_
 refine ar1 ⟨none, .mapUpdate 111 (.tmp 6) (.tmp 7) (.tmp 9), 0, "file.go:75", #[⟨3, .data⟩, ⟨4, .data⟩, ⟨6, .data⟩, ⟨6, .chain⟩, ⟨0, .phase⟩, ⟨1, .phase⟩, ⟨2, .phase⟩, ⟨3, .phase⟩, ⟨4, .phase⟩, ⟨5, .phase⟩, ⟨6, .phase⟩], none⟩ rfl (fun K hK => ?_)
 refine step_store (mb := mb) (s := s) (val := .agg #[.slice p n cap, .int .i64 n]) rfl (.tmp 6) (.tmp 7) (.tmp 9) rfl rfl rfl rfl (HV.out.bel D1.out).own (by omega) hs ?_
 intro w3 ho hk
 refine hK.out _ _ (HSK.out [mb] _ _ hk (by simpa using N1) (by simpa using N2) (by simpa using N3) (by simpa using N4) S2) (fun hHeld3 => ?_)
 clear hK K
 try simp only[Act.put,sqA,sqB,sqC]
 refine wpAnyH_done (by kernel_rfl) ?_ _
 have HO := Lib.hid ho
 have HK := Lib.hid hk
 clear ho hk hHeld hHeld2 hHeld3 S2
 go_wp2_with (fail)
 go_end0
 have hym := getF_mem HY.out
 have hnm := getF_name HY.out
 have hv := (HV.out.bel D1.out).val y hym (by simp)
 have hval := hv.keep HK.out (fun k hk1 hk2 => by
  rw [List.mem_singleton] at hk2
  subst hk2
  exact (HV.out.bel D1.out).ne_row hv hk1)
 have hput := FilesV.put (y := { y with safe := y.bytes.length }) (v' := V y.name) HS.out ((HV.out.bel D1.out).weak y.name) (x := w3) (n := M.L.length + 1) (by
   have := HO.out
   rw [← hnm] at this
   simp only [conV, HP.out, HN.out]
   exact this) HK.out hval (fun z hz hne k hk => (HV.out.apart y hym z hz (fun e => hne e.symm) k hk))
 refine ⟨rfl, _, _, (HH.out.keep (Keep.of_bel D1.out []) (by simp)).keep HK.out (by simpa using N4), hput, (Keep.of_bel D1.out _).trans HK.out (fun x hx => Or.inl hx), fun z hz k hk => Or.inl ?_⟩
 rcases mem_ins hz with rfl | hz
 ·simp only [if_true] at hk
  exact ⟨y, hym, hk⟩
 ·by_cases he : z.name = y.name
  ·simp only [he, if_true] at hk
   exact ⟨y, hym, hk⟩
  ·simp only [he, if_false] at hk
   exact ⟨z, hz, hk⟩

theorem slice_block (p : Option Addr) (n m cap : Nat) : (Value.slice p n cap).ownBlock = (Value.slice p m cap).ownBlock := by cases p <;> rfl
theorem own_shape {B : Nat} {w : World} {p : Option Addr} {n cap : Nat} {l : List UInt8} (h : Own B w (.slice p n cap) l) : n ≤ cap ∧ cap ≤ maxLen ∧ (∀ a, p = some a → a = ⟨a.block, 0, none⟩) ∧ (p = none → n = 0 ∧ cap = 0) := by
 rcases h.2 with ⟨h1, h0⟩ | ⟨g, cap', cur, h1, _, _, hc, hx, _⟩
 ·simp only [Value.slice.injEq] at h1
  obtain ⟨rfl, rfl, rfl⟩ := h1
  exact ⟨Nat.le_refl _, by unfold maxLen; omega, by simp, fun _ => ⟨rfl, rfl⟩⟩
 ·simp only [Value.slice.injEq] at h1
  obtain ⟨rfl, rfl, rfl⟩ := h1
  exact ⟨hc, hx, by simp, by simp⟩

set_option maxHeartbeats 4000000 in
set_option maxRecDepth 20000 in
theorem cutcl_any (n₀ : Nat) (w : World) (b mb : Nat) (M : RS) (t : Int) (D : DataW Value) (V : List UInt8 → Value) (Bc Bi Bf Bn : Nat) (s : ByteArray) (y : FI) (h : Hdr w b M (.map (some mb)) t) (hV : FilesV n₀ w mb D V M.L none) (hS : Srt M.L) (hL : M.L.length ≤ 1000)
  (hs : s.size ≤ maxLen) (hy : getF s.data.toList M.L = some y) {p : Option Addr} {n cap : Nat} (hp : V y.name = .slice p n cap) (hn : y.bytes.length = n) (m : Nat) (hm : m ≤ n) (e5 : w.cell? ⟨Bi, 0, none⟩ = some (.int .i64 m))
  (e0 : w.cell? ⟨Bc, 0, none⟩ = some (.slice p n cap)) (e1 : w.cell? ⟨Bc, 1, none⟩ = some (.int .i64 y.safe)) (e2 : w.cell? ⟨Bf, 0, none⟩ = some (.pointer (some ⟨b, 0, none⟩))) (e3 : w.cell? ⟨Bn, 0, none⟩ = some (.string s)) :
  Calls Tryz.prog 177 #[.pointer (some ⟨Bc, 0, none⟩), .pointer (some ⟨Bi, 0, none⟩), .pointer (some ⟨Bf, 0, none⟩), .pointer (some ⟨Bn, 0, none⟩)] w fun e w' =>
   e = .returned (.tuple #[]) ∧ Chg n₀ w w' b M mb t V M.L (insS { y with bytes := y.bytes.take m, safe := min y.safe m } M.L) [mb] := by
 have e4 : w.cell? ⟨b, 1, none⟩ = some (.map (some mb)) := by simp [World.cell?, h.1]
 have hSK : ∀ G x z, Keep G x z → Bc ∉ G → Bf ∉ G → Bn ∉ G → b ∉ G → Bi ∉ G →
   (x.cell? ⟨Bc, 0, none⟩ = some (.slice p n cap) ∧ x.cell? ⟨Bc, 1, none⟩ = some (.int .i64 y.safe) ∧ x.cell? ⟨Bf, 0, none⟩ = some (.pointer (some ⟨b, 0, none⟩)) ∧ x.cell? ⟨Bn, 0, none⟩ = some (.string s) ∧ x.cell? ⟨b, 1, none⟩ = some (.map (some mb)) ∧ x.cell? ⟨Bi, 0, none⟩ = some (.int .i64 m)) →
   (z.cell? ⟨Bc, 0, none⟩ = some (.slice p n cap) ∧ z.cell? ⟨Bc, 1, none⟩ = some (.int .i64 y.safe) ∧ z.cell? ⟨Bf, 0, none⟩ = some (.pointer (some ⟨b, 0, none⟩)) ∧ z.cell? ⟨Bn, 0, none⟩ = some (.string s) ∧ z.cell? ⟨b, 1, none⟩ = some (.map (some mb)) ∧ z.cell? ⟨Bi, 0, none⟩ = some (.int .i64 m)) :=
  fun G x z hk h1 h2 h3 h4 h5 hc => ⟨hk.cell hc.1 h1, hk.cell hc.2.1 h1, hk.cell hc.2.2.1 h2, hk.cell hc.2.2.2.1 h3, hk.cell hc.2.2.2.2.1 h4, hk.cell hc.2.2.2.2.2 h5⟩
 have HSK := Lib.hid hSK
 have N1 := cell_ne_map hV.own e0
 have N2 := cell_ne_map hV.own e2
 have N3 := cell_ne_map hV.own e3
 have N4 := h.ne hV.own
 have N5 := cell_ne_map hV.own e5
 obtain ⟨hp1, hp2, hp3, hp4⟩ : n ≤ cap ∧ cap ≤ maxLen ∧ (∀ a, p = some a → a = ⟨a.block, 0, none⟩) ∧ (p = none → n = 0 ∧ cap = 0) := own_shape (hp ▸ hV.val y (getF_mem hy) (by simp))
 have HF := Lib.hid (fun x => first_any x p n cap y.safe m hm hp1 hp2 hp3 hp4)
 clear hp1 hp2 hp3 hp4
 have HV := Lib.hid hV
 have HH := Lib.hid h
 have HS := Lib.hid hS
 have HY := Lib.hid hy
 have HP := Lib.hid hp
 have HN := Lib.hid hn
 clear hSK hV h hS hy hp hn
 go_enter Tryz.func177, Tryz.ntmps177
 go_wp2_with (fail)
 refine wp_region_held_drew (S := fun z => (z.cell? ⟨Bc, 0, none⟩ = some (.slice p n cap) ∧ z.cell? ⟨Bc, 1, none⟩ = some (.int .i64 y.safe) ∧ z.cell? ⟨Bf, 0, none⟩ = some (.pointer (some ⟨b, 0, none⟩)) ∧ z.cell? ⟨Bn, 0, none⟩ = some (.string s) ∧ z.cell? ⟨b, 1, none⟩ = some (.map (some mb)) ∧ z.cell? ⟨Bi, 0, none⟩ = some (.int .i64 m))) (by kernel_rfl) ⟨e0, e1, e2, e3, e4, e5⟩ (fun hHeld => ?_)
 refine tq ⟨some 4, .load 55 (.tmp 2), 55, "file.go:86", #[], none⟩ ?_ 0 rfl ?_ ?_;rotate_left;·(intros;go_simp<;>with_reducible rfl)
 try simp only[Act.put,sqA,sqB,sqC]
 refine tq ⟨some 5, .nilCheck (.tmp 4), 0, "file.go:86", #[⟨0, .data⟩], none⟩ ?_ 1 rfl ?_ ?_;rotate_left;·(intros;go_simp<;>with_reducible rfl)
 try simp only[Act.put,sqA,sqB,sqC]
 refine tq ⟨some 6, .fieldAddr 113 (.tmp 5) 1, 0, "file.go:86", #[⟨1, .data⟩], none⟩ ?_ 2 rfl ?_ ?_;rotate_left;·(intros;go_simp<;>with_reducible rfl)
 try simp only[Act.put,sqA,sqB,sqC]
 refine tq ⟨some 7, .load 111 (.tmp 6), 111, "file.go:86", #[⟨2, .data⟩], none⟩ ?_ 3 rfl ?_ ?_;rotate_left;·(intros;go_simp<;>with_reducible rfl)
 try simp only[Act.put,sqA,sqB,sqC]
 refine tq ⟨some 8, .load 9 (.tmp 3), 9, "file.go:86", #[], none⟩ ?_ 4 rfl ?_ ?_;rotate_left;·(intros;go_simp<;>with_reducible rfl)
 try simp only[Act.put,sqA,sqB,sqC]
 refine tq ⟨some 9, .load 116 (.tmp 0), 116, "file.go:86", #[], none⟩ ?_ 5 rfl ?_ ?_;rotate_left;·(intros;go_simp<;>with_reducible rfl)
 try simp only[Act.put,sqA,sqB,sqC]
 refine tq ⟨some 10, .load 3 (.tmp 1), 3, "file.go:86", #[], none⟩ ?_ 6 rfl ?_ ?_;rotate_left;·(intros;go_simp<;>with_reducible rfl)
 try simp only[Act.put,sqA,sqB,sqC]
 refine wpAnyH_ready (rs := [7]) (by kernel_rfl) (by simp) ?_
 refine ar1 ⟨some 11, .call ⟨.value (.func 91), #[.tmp 9, .tmp 10], #[116, 3]⟩, 116, "file.go:86", #[⟨5, .data⟩, ⟨6, .data⟩], none⟩ rfl (fun K hK => ?_)
 go_simp
 refine (HF.out _).mono ?_
 rintro e w2 ⟨rfl, hb2⟩
 have D1 := Lib.hid (((Bel.refl w).drew).trans hb2)
 have S2 := HSK.out [] _ _ (Keep.of_bel hb2 []) (by simp) (by simp) (by simp) (by simp) (by simp) hHeld
 clear hb2
 dsimp only
 refine hK.out _ _ S2 (fun hHeld2 => ?_)
 clear hK K
 try simp only[Act.put,sqA,sqB,sqC]
 refine wpAnyH_ready (rs := [8]) (by kernel_rfl) (by simp) ?_
 refine ar1 ⟨none, .mapUpdate 111 (.tmp 7) (.tmp 8) (.tmp 11), 0, "file.go:86", #[⟨3, .data⟩, ⟨4, .data⟩, ⟨7, .data⟩, ⟨7, .chain⟩, ⟨0, .phase⟩, ⟨1, .phase⟩, ⟨2, .phase⟩, ⟨3, .phase⟩, ⟨4, .phase⟩, ⟨5, .phase⟩, ⟨6, .phase⟩, ⟨7, .phase⟩], none⟩ rfl (fun K hK => ?_)
 refine step_store (mb := mb) (s := s) (val := .agg #[.slice p m cap, .int .i64 (min y.safe m : Nat)]) rfl (.tmp 7) (.tmp 8) (.tmp 11) rfl rfl rfl rfl (HV.out.bel D1.out).own (by omega) hs ?_
 intro w3 ho hk
 refine hK.out _ _ (HSK.out [mb] _ _ hk (by simpa using N1) (by simpa using N2) (by simpa using N3) (by simpa using N4) (by simpa using N5) S2) (fun hHeld3 => ?_)
 clear hK K
 try simp only[Act.put,sqA,sqB,sqC]
 refine wpAnyH_done (by kernel_rfl) ?_ _
 have HO := Lib.hid ho
 have HK := Lib.hid hk
 clear ho hk hHeld hHeld2 hHeld3 S2
 go_wp2_with (fail)
 go_end0
 have hym := getF_mem HY.out
 have hnm := getF_name HY.out
 have hv := (HV.out.bel D1.out).val y hym (by simp)
 rw [HP.out] at hv
 have hval := (own_first hv m hm).keep HK.out (fun k hk1 hk2 => by
  rw [List.mem_singleton] at hk2
  subst hk2
  exact (HV.out.bel D1.out).ne_row (own_first hv m hm) hk1)
 have hput := FilesV.put (y := { y with bytes := y.bytes.take m, safe := min y.safe m }) (v' := .slice p m cap) HS.out ((HV.out.bel D1.out).weak y.name) (x := w3) (n := M.L.length + 1) (by
   have := HO.out
   rw [← hnm] at this
   exact this) HK.out hval (fun z hz hne k hk => (HV.out.apart y hym z hz (fun e => hne e.symm) k (by rw [HP.out, slice_block p n m cap]; exact hk)))
 refine ⟨rfl, _, _, (HH.out.keep (Keep.of_bel D1.out []) (by simp)).keep HK.out (by simpa using N4), hput, (Keep.of_bel D1.out _).trans HK.out (fun x hx => Or.inl hx), fun z hz k hk => Or.inl ?_⟩
 rcases mem_ins hz with rfl | hz
 ·simp only [if_true] at hk
  exact ⟨y, hym, by rw [HP.out, slice_block p n m cap]; exact hk⟩
 ·by_cases he : z.name = y.name
  ·simp only [he, if_true] at hk
   exact ⟨y, hym, by rw [HP.out, slice_block p n m cap]; exact hk⟩
  ·simp only [he, if_false] at hk
   exact ⟨z, hz, hk⟩
set_option maxHeartbeats 4000000 in
set_option maxRecDepth 20000 in
theorem dropcl_any (n₀ : Nat) (w : World) (b mb : Nat) (M : RS) (t : Int) (D : DataW Value) (V : List UInt8 → Value) (Bf Bn : Nat) (s : ByteArray) (h : Hdr w b M (.map (some mb)) t) (hV : FilesV n₀ w mb D V M.L none) (hS : Srt M.L)
  (hs : s.size ≤ maxLen) (e2 : w.cell? ⟨Bf, 0, none⟩ = some (.pointer (some ⟨b, 0, none⟩))) (e3 : w.cell? ⟨Bn, 0, none⟩ = some (.string s)) :
  Calls Tryz.prog 123 #[.pointer (some ⟨Bf, 0, none⟩), .pointer (some ⟨Bn, 0, none⟩)] w fun e w' =>
   e = .returned (.tuple #[]) ∧ Chg n₀ w w' b M mb t V M.L (outS s.data.toList M.L) [mb] := by
 have e4 : w.cell? ⟨b, 1, none⟩ = some (.map (some mb)) := by simp [World.cell?, h.1]
 have N2 := cell_ne_map hV.own e2
 have N3 := cell_ne_map hV.own e3
 have N4 := h.ne hV.own
 have HV := Lib.hid hV
 have HH := Lib.hid h
 have HS := Lib.hid hS
 clear hV h hS
 go_enter Tryz.func123, Tryz.ntmps123
 go_wp2_with (fail)
 refine wp_region_held_drew (S := fun z => (z.cell? ⟨Bf, 0, none⟩ = some (.pointer (some ⟨b, 0, none⟩)) ∧ z.cell? ⟨Bn, 0, none⟩ = some (.string s) ∧ z.cell? ⟨b, 1, none⟩ = some (.map (some mb)))) (by kernel_rfl) ⟨e2, e3, e4⟩ (fun hHeld => ?_)
 refine tq ⟨some 2, .load 55 (.tmp 0), 55, "file.go:108", #[], none⟩ ?_ 0 rfl ?_ ?_;rotate_left;·(intros;go_simp<;>with_reducible rfl)
 try simp only[Act.put,sqA,sqB,sqC]
 refine tq ⟨some 3, .nilCheck (.tmp 2), 0, "file.go:108", #[⟨0, .data⟩], none⟩ ?_ 1 rfl ?_ ?_;rotate_left;·(intros;go_simp<;>with_reducible rfl)
 try simp only[Act.put,sqA,sqB,sqC]
 refine tq ⟨some 4, .fieldAddr 113 (.tmp 3) 1, 0, "file.go:108", #[⟨1, .data⟩], none⟩ ?_ 2 rfl ?_ ?_;rotate_left;·(intros;go_simp<;>with_reducible rfl)
 try simp only[Act.put,sqA,sqB,sqC]
 refine tq ⟨some 5, .load 111 (.tmp 4), 111, "file.go:108", #[⟨2, .data⟩], none⟩ ?_ 3 rfl ?_ ?_;rotate_left;·(intros;go_simp<;>with_reducible rfl)
 try simp only[Act.put,sqA,sqB,sqC]
 refine tq ⟨some 6, .load 9 (.tmp 1), 9, "file.go:108", #[], none⟩ ?_ 4 rfl ?_ ?_;rotate_left;·(intros;go_simp<;>with_reducible rfl)
 try simp only[Act.put,sqA,sqB,sqC]
 refine wpAnyH_ready (rs := [5]) (by kernel_rfl) (by simp) ?_
 refine ar1 ⟨none, .call ⟨.builtin .delete, #[.tmp 5, .tmp 6], #[111, 9]⟩, 0, "file.go:108", #[⟨3, .data⟩, ⟨4, .data⟩], none⟩ rfl (fun K hK => ?_)
 refine step_del (mb := mb) (s := s) rfl (.tmp 5) (.tmp 6) rfl rfl rfl (HV.out.bel (Bel.refl w).drew).own hs ?_
 intro w3 ho hk
 refine hK.out _ _ ⟨hk.cell hHeld.1 (by simpa using N2), hk.cell hHeld.2.1 (by simpa using N3), hk.cell hHeld.2.2 (by simpa using N4)⟩ (fun hHeld3 => ?_)
 clear hK K
 try simp only[Act.put,sqA,sqB,sqC]
 refine wpAnyH_done (by kernel_rfl) ?_ _
 have HO := Lib.hid ho
 have HK := Lib.hid hk
 clear ho hk hHeld hHeld3
 go_wp2_with (fail)
 go_end0
 have hdel := FilesV.del HS.out (HV.out.bel (Bel.refl w).drew) HO.out HK.out
 exact ⟨rfl, _, _, (HH.out.keep (Keep.of_bel (Bel.refl w).drew []) (by simp)).keep HK.out (by simpa using N4), hdel, (Keep.of_bel (Bel.refl w).drew _).trans HK.out (fun x hx => Or.inl hx), fun z hz k hk => Or.inl ⟨z, mem_out hz, hk⟩⟩

end Go.Proofs.YtfbiinnenlgkfaaGreatDoor
