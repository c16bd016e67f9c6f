/- FFind, FQuery, FAdmit, FTurn, FCl1, FCl2, FCl3, FOps, FOps2, FOps3, FCrsh, FCrash, FWf, FDoes, FSt, FMadeH, FRop, FRop2, FRadd, FRcr, laid together. -/
import Derived.Test.YtfbiinnenlgkfaaGreatDoorP14
import Derived.Test.YtfbiinnenlgkfaaGreatDoorP15
import Derived.Test.YtfbiinnenlgkfaaGreatDoorP2
import Derived.Laws.BitsAllLaws
import Derived.Test.YtfbiinnenlgkfaaGreatDoorP9
set_option linter.unusedSimpArgs false
set_option linter.unusedVariables false
/- file's find, Get, Used, Names. -/
namespace Go.Proofs.YtfbiinnenlgkfaaGreatDoor
open Go.RowKit Go.Deep Go.Maps

section
variable {n₀ : Nat} {w : World} {mb : Nat} {D : DataW Value} {V : List UInt8 → Value} {L : List FI} {e : Option (List UInt8)} {mv : Value} {F : List Nat}
theorem rv_held {v : Value} {z : DataW Value} {ps : List MemPlace} (h : RV v = some (z, ps)) : z = .held v := by
  simp only [RV, Option.some.injEq, Prod.mk.injEq] at h
  exact h.1.symm
theorem run_look_some (h : FilesV n₀ w mb D V L e) (s : ByteArray) (hs : s.size ≤ maxLen) {y : FI} (hy : getF s.data.toList L = some y) (c : Bool) :
    (Instr.lookup 111 (.map (some mb)) (.string s) c).run Tryz.prog w = .ok (if c then .tuple #[conV (V s.data.toList) y.safe, .bool true] else conV (V s.data.toList) y.safe) w := by
  have hh : Maps.has D (.string s.data.toList) = true := by rw [h.has, hy]; rfl
  cases c with
  | true =>
    obtain ⟨v, ps, hr, hv⟩ := h.own.look_ok keyLaw Tryz.underlying111 (zeroCon w) (zd := .held conZ) (zp := []) rfl (key_is s hs)
    rw [h.at_some hy, ] at hv
    have := rv_held hv
    simp only [DataW.held.injEq] at this
    rw [hr, hh, ← this]
    rfl
  | false =>
    obtain ⟨v, ps, hr, hv⟩ := h.own.lookup keyLaw Tryz.underlying111 (zeroCon w) (zd := .held conZ) (zp := []) rfl (key_is s hs)
    rw [h.at_some hy, ] at hv
    have := rv_held hv
    simp only [DataW.held.injEq] at this
    rw [hr, ← this]
    rfl
theorem run_look_none (h : FilesAt n₀ w mv L F) (s : ByteArray) (hs : s.size ≤ maxLen) (hy : getF s.data.toList L = none) (c : Bool) :
    (Instr.lookup 111 mv (.string s) c).run Tryz.prog w = .ok (if c then .tuple #[conZ, .bool false] else conZ) w := by
  rcases h with ⟨rfl, rfl⟩ | ⟨mb, D, V, rfl, h, _⟩
  · exact Maps.look_nil c keyLaw Tryz.underlying111 (zeroCon w) (key_is s hs)
  have hh : Maps.has D (.string s.data.toList) = false := by rw [h.has, hy]; rfl
  cases c with
  | true =>
    obtain ⟨v, ps, hr, hv⟩ := h.own.look_ok keyLaw Tryz.underlying111 (zeroCon w) (zd := .held conZ) (zp := []) rfl (key_is s hs)
    rw [h.at_none hy, ] at hv
    have := rv_held hv
    simp only [DataW.held.injEq] at this
    rw [hr, hh, ← this]
    rfl
  | false =>
    obtain ⟨v, ps, hr, hv⟩ := h.own.lookup keyLaw Tryz.underlying111 (zeroCon w) (zd := .held conZ) (zp := []) rfl (key_is s hs)
    rw [h.at_none hy, ] at hv
    have := rv_held hv
    simp only [DataW.held.injEq] at this
    rw [hr, ← this]
    rfl
end
theorem wpList_look {w : World} {ops : Array Oper} {rest : List Oper} {o : Oper} {a : Act} {Q : Exit → Act → World → Prop} {c : Bool} {mv kv r : Value} (hrun : (Instr.lookup 111 mv kv c).run Tryz.prog w = .ok r w)
    (hg : o.guard = none) (m x : Operand) (hop : o.op = Op.lookup 111 m x c) (hm : a.eval m = mv) (hx : a.eval x = kv) (hK : wpList Tryz.prog ops Q rest (a.put o.dst r) w) : wpList Tryz.prog ops Q (o :: rest) a w := by
  refine wpList_plain hg fun K' hK' => ?_
  unfold Oper.wp
  simp [execOp, hop, hm, hx, hrun, Result.andThen]
  exact hK' _ _ hK

set_option maxHeartbeats 2000000 in
theorem find_gone (n₀ : Nat) (w : World) (b : Nat) (M : RS) (F : List Nat) (s : ByteArray) (h : ProgAt n₀ w b M F) (hgone : M.gone = true) :
    Calls Tryz.prog 119 #[.pointer (some ⟨b, 0, none⟩), .string s] w fun e w' => e = .returned (.tuple #[conZ, .int .i64 7]) ∧ Bel w w' := by
  obtain ⟨⟨mv, t, hb, -⟩, -⟩ := h
  have c4 : w.cell? ⟨b, 4, none⟩ = some (.bool true) := by simp [World.cell?, hb, hgone]
  clear hb hgone
  unfold conZ
  go_enter Tryz.func119, Tryz.ntmps119
  go_wp2_with (fail)
  exact bodyPost_ret (v := .tuple #[.agg #[.slice none 0 0, .int .i64 0], .int .i64 7]) (by simp [results, Tryz.results119, go_sem]) rfl ⟨rfl, (Bel.refl w).alloc _⟩
set_option maxHeartbeats 2000000 in
theorem find_none (n₀ : Nat) (w : World) (b : Nat) (M : RS) (F : List Nat) (s : ByteArray) (h : ProgAt n₀ w b M F) (hgone : M.gone = false) (hs : s.size ≤ maxLen) (hy : getF s.data.toList M.L = none) :
    Calls Tryz.prog 119 #[.pointer (some ⟨b, 0, none⟩), .string s] w fun e w' => e = .returned (.tuple #[conZ, .int .i64 4]) ∧ Bel w w' := by
  obtain ⟨⟨mv, t, hb, _, _, hf⟩, -⟩ := h
  have c4 : w.cell? ⟨b, 4, none⟩ = some (.bool false) := by simp [World.cell?, hb, hgone]
  have c1 : w.cell? ⟨b, 1, none⟩ = some mv := by simp [World.cell?, hb]
  have HF := Lib.hid hf
  have HY := Lib.hid hy
  clear hb hgone hf hy
  unfold conZ
  go_enter Tryz.func119, Tryz.ntmps119
  go_wp2_with (at_lookup; refine wpList_look (run_look_none (HF.out.bel ((Bel.refl w).alloc _)) s hs HY.out true) rfl _ _ rfl rfl rfl ?_; unfold conZ)
  exact bodyPost_ret (v := .tuple #[.agg #[.slice none 0 0, .int .i64 0], .int .i64 4]) (by simp [results, Tryz.results119, go_sem]) rfl ⟨rfl, ((Bel.refl w).alloc _).alloc _⟩
set_option maxHeartbeats 2000000 in
theorem find_some (n₀ : Nat) (w : World) (b : Nat) (M : RS) (mb : Nat) (t : Int) (D : DataW Value) (V : List UInt8 → Value) (s : ByteArray) (y : FI)
    (hb : w.heap[b]? = some (.cells #[.int .i64 M.room, .map (some mb), .bool (decide (0 ≤ M.turns)), .int .i64 t, .bool M.gone] 113 (0, 0))) (hV : FilesV n₀ w mb D V M.L none)
    (hgone : M.gone = false) (hs : s.size ≤ maxLen) (hy : getF s.data.toList M.L = some y) :
    Calls Tryz.prog 119 #[.pointer (some ⟨b, 0, none⟩), .string s] w fun e w' => e = .returned (.tuple #[conV (V s.data.toList) y.safe, .int .i64 0]) ∧ Bel w w' := by
  have c4 : w.cell? ⟨b, 4, none⟩ = some (.bool false) := by simp [World.cell?, hb, hgone]
  have c1 : w.cell? ⟨b, 1, none⟩ = some (.map (some mb)) := by simp [World.cell?, hb]
  have hv := hV.val y (getF_mem hy) (by simp)
  rw [getF_name hy] at hv
  obtain ⟨p, cap, hp, -⟩ := own_len hv
  have hr : ∀ x, Bel w x → (Instr.lookup 111 (.map (some mb)) (.string s) true).run Tryz.prog x = .ok (.tuple #[.agg #[.slice p y.bytes.length cap, .int .i64 y.safe], .bool true]) x := fun x hx => by
    have := run_look_some (hV.bel hx) s hs hy true
    rw [this, hp]; rfl
  have HR := Lib.hid hr
  rw [hp]
  unfold conV
  have hbl := block_lt_of_cell c4
  clear hb hgone hy hV hv hr hp
  go_enter Tryz.func119, Tryz.ntmps119
  go_wp2_with (at_lookup; refine wpList_look (HR.out _ ((Bel.refl w).alloc _)) rfl _ _ rfl rfl rfl ?_)
  exact bodyPost_ret (v := .tuple #[.agg #[.slice p y.bytes.length cap, .int .i64 y.safe], .int .i64 0]) (by simp [results, Tryz.results119, go_sem]) rfl ⟨rfl, ((Bel.refl w).alloc _).alloc _⟩
end Go.Proofs.YtfbiinnenlgkfaaGreatDoor
/- file's Get, Used, Names. -/
namespace Go.Proofs.YtfbiinnenlgkfaaGreatDoor
open Go.RowKit Go.Deep Go.Maps

def getS (nm : List UInt8) (M : RS) : List UInt8 × Int := if M.gone then ([], 7) else match getF nm M.L with
  | some y => (y.bytes, 0)
  | none => ([], 4)
theorem conv_none (x : World) : (convert 114 9 (.slice none 0 0)).run Tryz.prog x = .ok (.string ⟨#[]⟩) x := own_string (Own.nil 0 x)
set_option maxHeartbeats 2000000 in
theorem pget_any (n₀ : Nat) (w : World) (b : Nat) (M : RS) (F : List Nat) (s : ByteArray) (h : ProgAt n₀ w b M F) (hs : s.size ≤ maxLen) :
    Calls Tryz.prog 118 #[.pointer (some ⟨b, 0, none⟩), .string s] w fun e w' =>
      e = .returned (.tuple #[.string ⟨(getS s.data.toList M).1.toArray⟩, .int .i64 (getS s.data.toList M).2]) ∧ Bel w w' := by
  have HP := Lib.hid h
  obtain ⟨⟨mv, t, hb, _, _, hf⟩, -⟩ := h
  cases hg : M.gone with
  | true =>
    have HG := Lib.hid (show getS s.data.toList M = ([], 7) by unfold getS; rw [hg]; rfl)
    have hc := conv_none
    have HG1 := Lib.hid hg
    clear hb hf hg
    go_enter Tryz.func118, Tryz.ntmps118
    go_wp2_with (fail)
    refine (find_gone n₀ _ b M F s HP.out HG1.out).mono ?_
    rintro e w1 ⟨rfl, hbl⟩
    have HB := Lib.hid hbl
    clear hbl
    unfold conZ
    go_wp2_with (fail)
    go_ret2
    exact ⟨by rw [HG.out]; rfl, HB.out.alloc _⟩
  | false =>
    cases hy : getF s.data.toList M.L with
    | none =>
      have HG := Lib.hid (show getS s.data.toList M = ([], 4) by unfold getS; rw [hg, hy]; rfl)
      have hc := conv_none
      have HG1 := Lib.hid hg
      have HY := Lib.hid hy
      clear hb hf hg hy
      go_enter Tryz.func118, Tryz.ntmps118
      go_wp2_with (fail)
      refine (find_none n₀ _ b M F s HP.out HG1.out hs HY.out).mono ?_
      rintro e w1 ⟨rfl, hbl⟩
      have HB := Lib.hid hbl
      clear hbl
      unfold conZ
      go_wp2_with (fail)
      go_ret2
      exact ⟨by rw [HG.out]; rfl, HB.out.alloc _⟩
    | some y =>
      rcases hf with ⟨_, hL⟩ | ⟨mb, D, V, rfl, hV, _⟩
      · rw [hL] at hy; cases hy
      have HG := Lib.hid (show getS s.data.toList M = (y.bytes, 0) by unfold getS; rw [hg, hy]; rfl)
      have HC := Lib.hid (find_some n₀ w b M mb t D V s y hb hV hg hs hy)
      have hv := hV.val y (getF_mem hy) (by simp)
      rw [getF_name hy] at hv
      obtain ⟨p, cap, hp, -⟩ := own_len hv
      rw [hp] at hv HC
      have HV := Lib.hid hv
      unfold conV at HC
      clear hb hV hg hy hp hv
      go_enter Tryz.func118, Tryz.ntmps118
      go_wp2_with (fail)
      refine HC.out.mono ?_
      rintro e w1 ⟨rfl, hbl⟩
      have HB := Lib.hid hbl
      clear hbl
      have hc : ∀ o, (convert 114 9 (.slice p y.bytes.length cap)).run Tryz.prog (w1.alloc o) = .ok (.string ⟨y.bytes.toArray⟩) (w1.alloc o) := fun o => own_string (HV.out.bel (HB.out.alloc o))
      go_wp2_with (fail)
      go_ret2
      exact ⟨by rw [HG.out]; rfl, HB.out.alloc _⟩

def usedL (left : Lit → Bool) : List FI → Nat
  | [] => 0
  | x :: L => (if left (.string x.name) = true then 0 else x.bytes.length) + usedL left L
theorem used_start {left : Lit → Bool} {L : List FI} (h : ∀ x ∈ L, left (.string x.name) = true) : usedL left L = 0 := by
  induction L with
  | nil => rfl
  | cons x L ih => rw [usedL, if_pos (h x (by simp)), ih (fun y hy => h y (by simp [hy]))]
theorem used_end {left : Lit → Bool} (h : ∀ k, left k = false) (L : List FI) : usedL left L = bytesN L := by
  induction L with
  | nil => rfl
  | cons x L ih => rw [usedL, bytesN, ih, h]; rfl
theorem used_le (left : Lit → Bool) (L : List FI) : usedL left L ≤ bytesN L := by
  induction L with
  | nil => exact Nat.le_refl _
  | cons x L ih => rw [usedL, bytesN]; split <;> omega
theorem used_same {left left' : Lit → Bool} {L : List FI} (h : ∀ x ∈ L, left (.string x.name) = left' (.string x.name)) : usedL left L = usedL left' L := by
  induction L with
  | nil => rfl
  | cons x L ih => rw [usedL, usedL, h x (by simp), ih (fun y hy => h y (by simp [hy]))]
theorem used_step {left : Lit → Bool} {L : List FI} (hs : Srt L) {y : FI} (hy : y ∈ L) (hl : left (.string y.name) = true) :
    usedL (fun z => left z && !z.sameKey (.string y.name)) L = usedL left L + y.bytes.length := by
  induction L with
  | nil => cases hy
  | cons x L ih =>
    rw [srt_cons] at hs
    rw [usedL, usedL]
    rcases List.mem_cons.1 hy with rfl | hy'
    · have e : usedL (fun z => left z && !z.sameKey (.string y.name)) L = usedL left L := used_same fun z hz => by
        have hne : z.name ≠ y.name := fun e => bl_ne (hs.1 z hz) e.symm
        simp [Lit.sameKey, hne]
      rw [e, hl]
      simp [Lit.sameKey]
      omega
    · have hne : x.name ≠ y.name := bl_ne (hs.1 y hy')
      rw [ih hs.2 hy']
      simp [Lit.sameKey, hne]
      omega
theorem wpList_next_files {n₀ : Nat} {w : World} {mb : Nat} {D : DataW Value} {V : List UInt8 → Value} {L : List FI} {w₀ : World} (hV : FilesV n₀ w₀ mb D V L none) {ops : Array Oper} {rest : List Oper} {o : Oper} {a : Act} {Q : Exit → Act → World → Prop}
    (hg : o.guard = none) (it : Operand) (hop : o.op = Op.next it false) {r n : Nat} {left : Lit → Bool} {cnt : Nat} (hit : a.eval it = .pointer (some ⟨r, 0, none⟩)) (h : w.ranges Tryz.prog 9 RV mb r n D left cnt)
    (hDone : (∀ kl, left kl = false) → wpList Tryz.prog ops Q rest (a.put o.dst (.tuple #[.bool false])) w)
    (hMore : ∀ (y : FI) (p : Option Addr) (cap : Nat) (w' : World) (cnt' : Nat), y ∈ L → left (.string y.name) = true → w'.ranges Tryz.prog 9 RV mb r n D (fun z => left z && !z.sameKey (.string y.name)) cnt' → cnt' < cnt → w.grownBy w' (some r) →
      (Instr.entry (.pointer (some ⟨r, 0, none⟩))).run Tryz.prog w' = .ok (.tuple #[.string ⟨y.name.toArray⟩, .agg #[.slice p y.bytes.length cap, .int .i64 y.safe]]) w' →
      wpList Tryz.prog ops Q rest (a.put o.dst (.tuple #[.bool true, .string ⟨y.name.toArray⟩, .agg #[.slice p y.bytes.length cap, .int .i64 y.safe]])) w') :
    wpList Tryz.prog ops Q (o :: rest) a w := by
  refine wpList_next_ranges w hg it hop 9 keyLaw RV encStr id (fun key kl hk => by obtain ⟨x, hx, _⟩ := Maps.keyOf_str Tryz.underlying9 hk; exact ⟨x, hx⟩) (fun v y hv => ⟨v, rfl⟩) mb r n D left cnt hit h (fun _ hl => hDone hl) ?_
  intro x c kl y w' cnt' hkey hlk hv hat hrg hlt hgr hsz hen
  obtain ⟨x', ex, rfl, _⟩ := Maps.keyOf_str Tryz.underlying9 hkey
  obtain rfl : x = x' := encStr_inj ex
  have hh := Maps.has_true_of_atKey hat
  rw [hV.has] at hh
  obtain ⟨f, hf⟩ := Option.isSome_iff_exists.1 hh
  have hc := hat (.held conZ)
  rw [hV.at_some hf] at hc
  obtain ⟨y1, y2⟩ := y
  have := rv_held hv
  rw [this] at hc
  simp only [DataW.held.injEq, id_eq] at hc
  obtain rfl := getF_name hf
  have ho := hV.val f (getF_mem hf) (by simp)
  obtain ⟨p, cap, hp, -⟩ := own_len ho
  rw [hp] at hc
  rw [← hc] at hen ⊢
  exact hMore f p cap w' cnt' (getF_mem hf) hlk hrg hlt hgr hen
set_option maxHeartbeats 2000000 in
theorem pused_any (n₀ : Nat) (w : World) (b : Nat) (M : RS) (F : List Nat) (h : ProgAt n₀ w b M F) (hs : Srt M.L) (hB : bytesN M.L ≤ 1000000000) :
    Calls Tryz.prog 24 #[.pointer (some ⟨b, 0, none⟩)] w fun e w' => e = .returned (.int .i64 (bytesN M.L : Nat)) ∧ Bel w w' := by
  obtain ⟨⟨mv, t, hb, _, _, hf⟩, -⟩ := h
  have c1 : w.cell? ⟨b, 1, none⟩ = some mv := by simp [World.cell?, hb]
  clear hb
  rcases hf with ⟨rfl, hL⟩ | ⟨mb, D, V, rfl, hV, _⟩
  · have HL := Lib.hid (show bytesN M.L = 0 by rw [hL]; rfl)
    clear hL
    have hrg := run_range_nilMap (P := Tryz.prog) w 111 9 116 Tryz.underlying111
    have hnx : ∀ ty, (Instr.next (.pointer (some ⟨w.heap.size, 0, none⟩)) false ty).run Tryz.prog (w.alloc (.mapIter none 0 #[] 0)) = _ := fun ty => run_next_nilMap w ty 0 0 #[]
    go_enter Tryz.func24, Tryz.ntmps24
    go_wp2
    refine wp_loop_rounds 1 ?_
    rw [rounds_succ]
    go_wp2
    go_ret
    exact ⟨by rw [HL.out]; rfl, (Bel.refl w).alloc _⟩
  · have HV := Lib.hid hV
    have HS := Lib.hid hs
    have hown := Lib.hid hV.own
    have HH := Lib.hid (show ∀ x ∈ M.L, Maps.has D (.string x.name) = true from fun x hx => by rw [hV.has, getF_of_mem hs hx]; rfl)
    clear hV hs
    go_enter Tryz.func24, Tryz.ntmps24
    go_wp2_with (first
      | (at_range; refine wpList_range_own _ rfl _ 111 rfl 9 116 keyLaw Tryz.underlying111 RV mb _ D rfl hown.out ?_; intro w0 hrg0 hg0 hs0)
      | go_in)
    go_frame
    have HG0 := Lib.hid ((Keep.refl [] w).grown hg0 (fun r hr => by cases hr))
    have HR0 := Lib.hid hrg0
    clear hs0 hg0 hrg0
    go_loopw [3] (fun n x => ∃ (left : Lit → Bool) (cnt : Nat), x.ranges Tryz.prog 9 RV mb w.heap.size M.L.length D left cnt ∧ n = .int .i64 (usedL left M.L : Nat) ∧ Bel w x) (fun _ x => x.rangeLeft mb w.heap.size)
    case atStart => exact ⟨_, _, HR0.out, by rw [used_start HH.out]; rfl, HG0.out.bel (by simp)⟩
    case round =>
      obtain ⟨left, cnt, hrg, rfl, hbel⟩ := hrel
      have HRG := Lib.hid hrg
      have HB := Lib.hid hbel
      have HLE := Lib.hid (used_end (left := left) · M.L)
      clear hrg hbel
      go_wp2_with (first
        | (at_next; refine wpList_next_files HV.out rfl _ rfl rfl HRG.out ?_ ?_)
        | go_in)
      · intro hl0
        go_wp2
        go_ret
        exact ⟨ret_int (by rw [HLE.out hl0]), HB.out⟩
      · intro y p cap w1 cnt1 hy hlx hrg1 hlt hg1 hen
        have HRG1 := Lib.hid hrg1
        have HB1 := Lib.hid (HB.out.trans_below ((Below.refl _ _).grown hg1 (HRG.out.lt |> fun _ => HB.out.size) (fun k hk => by cases hk; exact Nat.le_refl _) |>.mono (Nat.le_refl _)))
        have HST := Lib.hid (used_step HS.out hy hlx)
        have hle := used_le (fun z => left z && !z.sameKey (.string y.name)) M.L
        rw [HST.out] at hle
        have HLT := Lib.hid hlt
        clear hrg1 hy hlx hg1 hlt
        generalize usedL left M.L = z at *
        go_wp2_with (fail)
        go_roundw
        case rel => exact ⟨_, cnt1, HRG1.out.alloc _, by rw [HST.out]; go_num, HB1.out.alloc _⟩
        case measure => rw [(HRG1.out.alloc _).left_eq, HRG.out.left_eq]; exact HLT.out

def strEl : El (List UInt8) := ⟨9, 71, 1, fun l => [.string ⟨l.toArray⟩]⟩
theorem strOk : ElOk strEl 16 := ⟨fun _ => rfl, fun a u hu => by simp [strEl] at hu; subst hu; rfl, by kernel_rfl, ⟨.string ⟨#[]⟩, by kernel_rfl, rfl⟩, by decide⟩
theorem str_all (L : List (List UInt8)) : strEl.all L = L.map encStr := by
  induction L with
  | nil => rfl
  | cons x L ih => simp only [El.all, List.flatMap_cons, List.map_cons] at *; rw [ih]; rfl
theorem names_sorted {L : List FI} (hs : Srt L) : (L.map (·.name)).Pairwise (fun a b => decide (a ≤ b) = true) := by
  rw [List.pairwise_map]
  refine hs.imp fun h => ?_
  rw [bytesLess_eq, decide_eq_true_eq] at h
  rw [decide_eq_true_eq]
  exact List.le_of_lt h
theorem names_nodup {L : List FI} (hs : Srt L) : (L.map (·.name)).Nodup := by
  rw [List.Nodup, List.pairwise_map]
  exact hs.imp fun h => bl_ne h
theorem names_of_perm {n₀ : Nat} {w : World} {mb : Nat} {D : DataW Value} {V : List UInt8 → Value} {L : List FI} (hV : FilesV n₀ w mb D V L none) (hs : Srt L) {ss : List (List UInt8)} (hp : ss.Perm (strKeys D)) :
    ss.mergeSort (fun x y => decide (x ≤ y)) = L.map (·.name) := by
  obtain ⟨es, hD, hpw, _⟩ := hV.own.entries keyLaw
  obtain ⟨es', hD', hko⟩ := hV.own.keysOf
  obtain rfl : es = es' := by rw [hD] at hD'; simpa using hD'
  have h1 : (L.map (·.name)).Perm (strKeys D) := by
    rw [hD]
    refine perm_strKeys hpw (fun p hp => by obtain ⟨v, hv⟩ := hko p hp; obtain ⟨x, _, hx, _⟩ := Maps.keyOf_str Tryz.underlying9 hv; exact ⟨x, hx⟩) (names_nodup hs) (fun x => ?_)
    rw [← hD, hV.has]
    constructor
    · intro hx
      obtain ⟨y, hy, rfl⟩ := List.mem_map.1 hx
      rw [getF_of_mem hs hy]; rfl
    · intro hx
      obtain ⟨y, hy⟩ := Option.isSome_iff_exists.1 hx
      exact List.mem_map.2 ⟨y, getF_mem hy, getF_name hy⟩
  rw [mergeSort_of_perm (hp.trans h1.symm)]
  exact List.mergeSort_of_pairwise (names_sorted hs)
set_option maxHeartbeats 2000000 in
theorem pnames_any (n₀ : Nat) (w : World) (b : Nat) (M : RS) (F : List Nat) (h : ProgAt n₀ w b M F) (hs : Srt M.L) (hL : M.L.length ≤ 1000) :
    Calls Tryz.prog 27 #[.pointer (some ⟨b, 0, none⟩)] w fun e w' => ∃ v, e = .returned v ∧ OwnG strEl w.heap.size w' v (M.L.map (·.name)) ∧ Bel w w' := by
  obtain ⟨⟨mv, t, hb, _, _, hf⟩, -⟩ := h
  have c1 : w.cell? ⟨b, 1, none⟩ = some mv := by simp [World.cell?, hb]
  clear hb
  rcases hf with ⟨rfl, hL0⟩ | ⟨mb, D, V, rfl, hV, _⟩
  · have HL := Lib.hid hL0
    clear hL0
    go_enter Tryz.func27, Tryz.ntmps27
    go_wp2_with (first
      | (go_at_call 49; refine (callsIn_wide.1 (Tryz.maps_Keys_49 _ _)).mono ?_; rintro e w' ⟨rfl, rfl⟩)
      | (go_at_call 48; refine (callsIn_wide.1 (Tryz.slices_Sorted_keys_nil_48_49 w)).mono ?_; rintro e w' ⟨v, ss, rfl, hS, hrow, hnil, hb⟩))
    go_ret
    have hv := hnil.2 hS
    refine ⟨v, rfl, ?_, ((Below.refl _ w).alloc (Nat.le_refl _) _).trans (hb.mono (by simp))⟩
    rw [HL.out, hv]
    exact OwnG.nil _ _ _
  · have HV := Lib.hid hV
    have HS := Lib.hid hs
    have hown := hV.own
    have hmax : Maps.size D ≤ maxLen := by rw [hV.size]; unfold maxLen; omega
    have hbytes : Maps.size D * 16 ≤ 140737488355328 := by rw [hV.size]; omega
    clear hV hs
    go_enter Tryz.func27, Tryz.ntmps27
    go_wp2_with (first
      | (go_at_call 49; refine (callsIn_wide.1 (Tryz.maps_Keys_49 _ _)).mono ?_; rintro e w' ⟨rfl, rfl⟩)
      | (go_at_call 48; refine (callsIn_wide.1 (Tryz.slices_Sorted_keys_48_49 mb _ D RV w hown hmax hbytes)).mono ?_; rintro e w' ⟨v, ss, rfl, hS, hrow, hnil, hb⟩))
    go_ret
    refine ⟨v, rfl, ?_, ((Below.refl _ w).alloc (Nat.le_refl _) _).trans (hb.mono (by simp))⟩
    rw [names_of_perm HV.out HS.out hS] at hrow
    have hlen : ss.length = (M.L.map (·.name)).length := by
      rw [← names_of_perm HV.out HS.out hS, List.length_mergeSort]
    rw [hlen] at hrow
    have h2 : OwnG strEl (w.alloc (.cells #[.map (some mb)] 111)).heap.size w' v (M.L.map (·.name)) := by
      unfold OwnG
      rw [str_all]
      exact hrow
    exact h2.low (by simp)
end Go.Proofs.YtfbiinnenlgkfaaGreatDoor
/- file's admits. -/
namespace Go.Proofs.YtfbiinnenlgkfaaGreatDoor
open Go.RowKit Go.Deep Go.Maps

theorem wrap_in {n : Int} (h1 : -9223372036854775808 ≤ n) (h2 : n ≤ 9223372036854775807) : IntKind.i64.wrap n = n := by
  rw [IntKind.wrap_i64]
  try unfold wrap64
  omega
def admS (nm : List UInt8) (size : Nat) (M : RS) : Int :=
  if M.gone then 7 else if nameB nm = false then 3 else if (getF nm M.L).isSome = false ∧ 60 ≤ M.L.length then 11 else if M.room < (bytesN M.L : Int) + size then 6 else 0
section
variable {n₀ : Nat} {w x : World} {b : Nat} {M : RS} {F : List Nat} {mv : Value} {L : List FI}
theorem run_look_any (h : FilesAt n₀ w mv L F) (s : ByteArray) (hs : s.size ≤ maxLen) (c : Bool) : ∃ p n cap f, ∀ x, Bel w x →
    (Instr.lookup 111 mv (.string s) true).run Tryz.prog x = .ok (.tuple #[.agg #[.slice p n cap, .int .i64 f], .bool (getF s.data.toList L).isSome]) x := by
  cases hy : getF s.data.toList L with
  | none => exact ⟨none, 0, 0, 0, fun x hx => run_look_none (h.bel hx) s hs hy true⟩
  | some y =>
    rcases h with ⟨rfl, rfl⟩ | ⟨mb, D, V, rfl, hV, _⟩
    · cases hy
    have hv := hV.val y (getF_mem hy) (by simp)
    rw [getF_name hy] at hv
    obtain ⟨p, cap, hp, -⟩ := own_len hv
    refine ⟨p, y.bytes.length, cap, y.safe, fun x hx => ?_⟩
    rw [run_look_some (hV.bel hx) s hs hy true, hp]; rfl
theorem run_len_any (h : FilesAt n₀ w mv L F) : ∀ x, Bel w x → ∀ ty, (Builtin.len_ #[111] ty #[mv]).run Tryz.prog x = .ok (.int .i64 (L.length : Nat)) x := by
  intro x hx ty
  rcases h with ⟨rfl, rfl⟩ | ⟨mb, D, V, rfl, hV, _⟩
  · exact Maps.len_nil Tryz.underlying111 ty
  · rw [(hV.bel hx).own.len Tryz.underlying111 ty, hV.size]
end
set_option maxHeartbeats 4000000 in
theorem admits_any (n₀ : Nat) (w : World) (b : Nat) (M : RS) (F : List Nat) (s : ByteArray) (k : Nat) (h : ProgAt n₀ w b M F) (hs : s.size ≤ 1000000) (hk : k ≤ 1000000) (hS : Srt M.L) (hB : bytesN M.L ≤ 1000000000) (hL : M.L.length ≤ 1000) (hroom : 0 ≤ M.room ∧ M.room ≤ 10000000) :
    Calls Tryz.prog 60 #[.pointer (some ⟨b, 0, none⟩), .string s, .int .i64 k] w fun e w' => e = .returned (.int .i64 (admS s.data.toList k M)) ∧ Bel w w' := by
  have HP := Lib.hid h
  obtain ⟨⟨mv, t, hb, _, _, hf⟩, -⟩ := h
  have c0 : w.cell? ⟨b, 0, none⟩ = some (.int .i64 M.room) := by simp [World.cell?, hb]
  have c1 : w.cell? ⟨b, 1, none⟩ = some mv := by simp [World.cell?, hb]
  have c4 : w.cell? ⟨b, 4, none⟩ = some (.bool M.gone) := by simp [World.cell?, hb]
  have hbl := block_lt_of_cell c0
  have hsm := Lib.hid (show s.size ≤ maxLen by unfold maxLen; omega)
  obtain ⟨p, n, cap, f, hlk⟩ := run_look_any hf s hsm.out true
  have HLK := Lib.hid hlk
  have HLN := Lib.hid (run_len_any hf)
  have HSR := Lib.hid hS
  obtain ⟨hr1, hr2⟩ := hroom
  clear hb hf hlk hS
  have W1 := Lib.hid ((Bel.refl w).alloc (.cells #[.slice p n cap, .int .i64 f] 116))
  cases hg : M.gone with
  | true =>
    have HA := Lib.hid (show admS s.data.toList k M = 7 by unfold admS; rw [if_pos hg])
    rw [hg] at c4
    clear hg
    go_enter Tryz.func60, Tryz.ntmps60
    go_wp2_with (at_lookup; refine wpList_look (HLK.out _ (Bel.refl _)) rfl _ _ rfl rfl rfl ?_)
    go_ret
    exact ⟨ret_int (by rw [HA.out]), (Bel.refl w).alloc _⟩
  | false =>
    rw [hg] at c4
    cases hn : nameB s.data.toList with
    | false =>
      have HA := Lib.hid (show admS s.data.toList k M = 3 by unfold admS; rw [hg, hn]; rfl)
      have HN := Lib.hid hn
      clear hg hn
      go_enter Tryz.func60, Tryz.ntmps60
      go_wp2_with (first
        | (at_lookup; refine wpList_look (HLK.out _ (Bel.refl _)) rfl _ _ rfl rfl rfl ?_)
        | (go_at_call 97; refine (isname_any s _ hsm.out).mono ?_; rintro e w1 ⟨rfl, hd⟩; rw [HN.out]; have HD := Lib.hid hd; clear hd))
      go_ret
      exact ⟨ret_int (by rw [HA.out]), W1.out.trans HD.out.bel⟩
    | true =>
      have HN := Lib.hid hn
      by_cases hm : (getF s.data.toList M.L).isSome = false ∧ 60 ≤ M.L.length
      · have HA := Lib.hid (show admS s.data.toList k M = 11 by unfold admS; rw [hg, hn, if_pos hm]; rfl)
        obtain ⟨hm1, hm2⟩ := hm
        rw [hm1] at HLK
        clear hg hn hm1
        go_enter Tryz.func60, Tryz.ntmps60
        go_wp2_with (first
          | (at_lookup; refine wpList_look (HLK.out _ (Bel.refl _)) rfl _ _ rfl rfl rfl ?_)
          | (go_at_call 97; refine (isname_any s _ hsm.out).mono ?_; rintro e w1 ⟨rfl, hd⟩; rw [HN.out]
             have HD := Lib.hid (W1.out.trans hd.bel)
             have hln := HLN.out _ HD.out
             have c1' := cell_later HD.out c1
             have c4' := cell_later HD.out c4
             clear hd))
        go_ret
        exact ⟨ret_int (by rw [HA.out]), HD.out⟩
      · have hroad : (getF s.data.toList M.L).isSome = true ∨ ((getF s.data.toList M.L).isSome = false ∧ M.L.length < 60) := by
          cases hi : (getF s.data.toList M.L).isSome with
          | true => exact Or.inl rfl
          | false => exact Or.inr ⟨rfl, by rw [hi] at hm; simp at hm; exact hm⟩
        by_cases hfull : M.room < (bytesN M.L : Int) + k
        · have HA := Lib.hid (show admS s.data.toList k M = 6 by unfold admS; rw [hg, hn, if_neg hm, if_pos hfull]; rfl)
          have hf2 : M.room - (bytesN M.L : Int) < (k : Int) := by omega
          clear hg hn hm
          rcases hroad with hi | ⟨hi, hlt⟩
          · rw [hi] at HLK
            clear hi
            go_enter Tryz.func60, Tryz.ntmps60
            go_wp2_with (first
              | (at_lookup; refine wpList_look (HLK.out _ (Bel.refl _)) rfl _ _ rfl rfl rfl ?_)
              | (go_at_call 97; refine (isname_any s _ hsm.out).mono ?_; rintro e w1 ⟨rfl, hd⟩; rw [HN.out]
                 have HD := Lib.hid (W1.out.trans hd.bel)
                 have hln := HLN.out _ HD.out
                 have c0' := cell_later HD.out c0
                 have c1' := cell_later HD.out c1
                 have c4' := cell_later HD.out c4
                 clear hd))
            have hwr : IntKind.i64.wrap (M.room - (bytesN M.L : Int)) = M.room - (bytesN M.L : Int) := wrap_in (by omega) (by omega)
            refine wp_region_held_drew (S := fun y => y.cell? ⟨b, 0, none⟩ = some (.int .i64 M.room)) (by kernel_rfl) c0' (fun hHeld => ?_)
            refine tk (oi := { dst := some 39, op := Op.move (Operand.tmp 2), type := 3, pos := "file.go:52", after := #[], guard := none }) (v := ?_) 0 rfl ?_ ?_
            rotate_left
            · (intro w hSw; (try dsimp only at hSw); first | (go_simp; done) | (go_simp; with_reducible rfl))
            try simp only [Act.put, List.setIfInBounds_toArray, List.set_cons_zero, List.set_cons_succ]
            refine tk (oi := { dst := some 40, op := Op.move (Operand.tmp 0), type := 55, pos := "file.go:52", after := #[], guard := none }) (v := ?_) 1 rfl ?_ ?_
            rotate_left
            · (intro w hSw; (try dsimp only at hSw); first | (go_simp; done) | (go_simp; with_reducible rfl))
            try simp only [Act.put, List.setIfInBounds_toArray, List.set_cons_zero, List.set_cons_succ]
            refine tk (oi := { dst := some 41, op := Op.nilCheck (Operand.tmp 40), type := 0, pos := "file.go:52", after := #[{ on := 1, ground := Ground.data }], guard := none }) (v := ?_) 2 rfl ?_ ?_
            rotate_left
            · (intro w hSw; (try dsimp only at hSw); first | (go_simp; done) | (go_simp; with_reducible rfl))
            try simp only [Act.put, List.setIfInBounds_toArray, List.set_cons_zero, List.set_cons_succ]
            refine tk (oi := { dst := some 42, op := Op.fieldAddr 113 (Operand.tmp 41) 0, type := 0, pos := "file.go:52", after := #[{ on := 2, ground := Ground.data }], guard := none }) (v := ?_) 3 rfl ?_ ?_
            rotate_left
            · (intro w hSw; (try dsimp only at hSw); first | (go_simp; done) | (go_simp; with_reducible rfl))
            try simp only [Act.put, List.setIfInBounds_toArray, List.set_cons_zero, List.set_cons_succ]
            refine tk (oi := { dst := some 43, op := Op.load 3 (Operand.tmp 42), type := 3, pos := "file.go:52", after := #[{ on := 3, ground := Ground.data }], guard := none }) (v := ?_) 4 rfl ?_ ?_
            rotate_left
            · (intro w hSw; (try dsimp only at hSw); first | (go_simp; done) | (go_simp; with_reducible rfl))
            try simp only [Act.put, List.setIfInBounds_toArray, List.set_cons_zero, List.set_cons_succ]
            refine tk (oi := { dst := some 44, op := Op.move (Operand.tmp 0), type := 55, pos := "file.go:52", after := #[], guard := none }) (v := ?_) 5 rfl ?_ ?_
            rotate_left
            · (intro w hSw; (try dsimp only at hSw); first | (go_simp; done) | (go_simp; with_reducible rfl))
            try simp only [Act.put, List.setIfInBounds_toArray, List.set_cons_zero, List.set_cons_succ]
            refine wpAnyH_ready (rs := [6]) (by kernel_rfl) (by simp) ?_
            refine AllReadyH.cons (o := { dst := some 45, op := Op.call { callee := Callee.value (Operand.func 24), args := #[Operand.tmp 44], argTypes := #[55] }, type := 3, pos := "file.go:52", after := #[{ on := 5, ground := Ground.data }], guard := none }) rfl (fun K hK => ?_) AllReadyH.nil
            go_simp
            refine (pused_any n₀ _ b M F (HP.out.bel HD.out.drew) HSR.out hB).mono ?_
            rintro e w2 ⟨rfl, hb2⟩
            have d0 := cell_later hb2 (show w1.drew.cell? ⟨b, 0, none⟩ = _ from c0')
            have D1 := Lib.hid (HD.out.drew.trans hb2)
            clear hb2
            dsimp only
            refine hK.out _ _ d0 (fun hHeld => ?_)
            clear hK K
            try simp only [Act.put, List.setIfInBounds_toArray, List.set_cons_zero, List.set_cons_succ]
            refine tk (oi := { dst := some 46, op := Op.binOp BinOp.sub 3 (Operand.tmp 43) (Operand.tmp 45) 3, type := 3, pos := "file.go:52", after := #[{ on := 4, ground := Ground.data }, { on := 6, ground := Ground.data }], guard := none }) (v := ?_) 7 rfl ?_ ?_
            rotate_left
            · (intro w hSw; (try dsimp only at hSw); first | (go_simp; done) | (go_simp; with_reducible rfl))
            try simp only [Act.put, List.setIfInBounds_toArray, List.set_cons_zero, List.set_cons_succ]
            refine tk (oi := { dst := some 47, op := Op.binOp BinOp.gtr 3 (Operand.tmp 39) (Operand.tmp 46) 3, type := 4, pos := "file.go:52", after := #[{ on := 0, ground := Ground.data }, { on := 7, ground := Ground.data }], guard := none }) (v := ?_) 8 rfl ?_ ?_
            rotate_left
            · (intro w hSw; (try dsimp only at hSw); first | (go_simp; done) | (go_simp; with_reducible rfl))
            try simp only [Act.put, List.setIfInBounds_toArray, List.set_cons_zero, List.set_cons_succ]
            refine tk (oi := { dst := some 38, op := Op.assign (Operand.tmp 47), type := 4, pos := "file.go:52", after := #[{ on := 8, ground := Ground.data }, { on := 6, ground := Ground.chain }], guard := none }) (v := ?_) 9 rfl ?_ ?_
            rotate_left
            · (intro w hSw; (try dsimp only at hSw); first | (go_simp; done) | (go_simp; with_reducible rfl))
            try simp only [Act.put, List.setIfInBounds_toArray, List.set_cons_zero, List.set_cons_succ]
            refine wpAnyH_done (by kernel_rfl) ?_ _
            go_wp2_with (fail)
            go_ret
            exact ⟨ret_int (by rw [HA.out]), D1.out⟩
          · rw [hi] at HLK
            clear hi
            go_enter Tryz.func60, Tryz.ntmps60
            go_wp2_with (first
              | (at_lookup; refine wpList_look (HLK.out _ (Bel.refl _)) rfl _ _ rfl rfl rfl ?_)
              | (go_at_call 97; refine (isname_any s _ hsm.out).mono ?_; rintro e w1 ⟨rfl, hd⟩; rw [HN.out]
                 have HD := Lib.hid (W1.out.trans hd.bel)
                 have hln := HLN.out _ HD.out
                 have c0' := cell_later HD.out c0
                 have c1' := cell_later HD.out c1
                 have c4' := cell_later HD.out c4
                 clear hd))
            have hwr : IntKind.i64.wrap (M.room - (bytesN M.L : Int)) = M.room - (bytesN M.L : Int) := wrap_in (by omega) (by omega)
            refine wp_region_held_drew (S := fun y => y.cell? ⟨b, 0, none⟩ = some (.int .i64 M.room)) (by kernel_rfl) c0' (fun hHeld => ?_)
            refine tk (oi := { dst := some 39, op := Op.move (Operand.tmp 2), type := 3, pos := "file.go:52", after := #[], guard := none }) (v := ?_) 0 rfl ?_ ?_
            rotate_left
            · (intro w hSw; (try dsimp only at hSw); first | (go_simp; done) | (go_simp; with_reducible rfl))
            try simp only [Act.put, List.setIfInBounds_toArray, List.set_cons_zero, List.set_cons_succ]
            refine tk (oi := { dst := some 40, op := Op.move (Operand.tmp 0), type := 55, pos := "file.go:52", after := #[], guard := none }) (v := ?_) 1 rfl ?_ ?_
            rotate_left
            · (intro w hSw; (try dsimp only at hSw); first | (go_simp; done) | (go_simp; with_reducible rfl))
            try simp only [Act.put, List.setIfInBounds_toArray, List.set_cons_zero, List.set_cons_succ]
            refine tk (oi := { dst := some 41, op := Op.nilCheck (Operand.tmp 40), type := 0, pos := "file.go:52", after := #[{ on := 1, ground := Ground.data }], guard := none }) (v := ?_) 2 rfl ?_ ?_
            rotate_left
            · (intro w hSw; (try dsimp only at hSw); first | (go_simp; done) | (go_simp; with_reducible rfl))
            try simp only [Act.put, List.setIfInBounds_toArray, List.set_cons_zero, List.set_cons_succ]
            refine tk (oi := { dst := some 42, op := Op.fieldAddr 113 (Operand.tmp 41) 0, type := 0, pos := "file.go:52", after := #[{ on := 2, ground := Ground.data }], guard := none }) (v := ?_) 3 rfl ?_ ?_
            rotate_left
            · (intro w hSw; (try dsimp only at hSw); first | (go_simp; done) | (go_simp; with_reducible rfl))
            try simp only [Act.put, List.setIfInBounds_toArray, List.set_cons_zero, List.set_cons_succ]
            refine tk (oi := { dst := some 43, op := Op.load 3 (Operand.tmp 42), type := 3, pos := "file.go:52", after := #[{ on := 3, ground := Ground.data }], guard := none }) (v := ?_) 4 rfl ?_ ?_
            rotate_left
            · (intro w hSw; (try dsimp only at hSw); first | (go_simp; done) | (go_simp; with_reducible rfl))
            try simp only [Act.put, List.setIfInBounds_toArray, List.set_cons_zero, List.set_cons_succ]
            refine tk (oi := { dst := some 44, op := Op.move (Operand.tmp 0), type := 55, pos := "file.go:52", after := #[], guard := none }) (v := ?_) 5 rfl ?_ ?_
            rotate_left
            · (intro w hSw; (try dsimp only at hSw); first | (go_simp; done) | (go_simp; with_reducible rfl))
            try simp only [Act.put, List.setIfInBounds_toArray, List.set_cons_zero, List.set_cons_succ]
            refine wpAnyH_ready (rs := [6]) (by kernel_rfl) (by simp) ?_
            refine AllReadyH.cons (o := { dst := some 45, op := Op.call { callee := Callee.value (Operand.func 24), args := #[Operand.tmp 44], argTypes := #[55] }, type := 3, pos := "file.go:52", after := #[{ on := 5, ground := Ground.data }], guard := none }) rfl (fun K hK => ?_) AllReadyH.nil
            go_simp
            refine (pused_any n₀ _ b M F (HP.out.bel HD.out.drew) HSR.out hB).mono ?_
            rintro e w2 ⟨rfl, hb2⟩
            have d0 := cell_later hb2 (show w1.drew.cell? ⟨b, 0, none⟩ = _ from c0')
            have D1 := Lib.hid (HD.out.drew.trans hb2)
            clear hb2
            dsimp only
            refine hK.out _ _ d0 (fun hHeld => ?_)
            clear hK K
            try simp only [Act.put, List.setIfInBounds_toArray, List.set_cons_zero, List.set_cons_succ]
            refine tk (oi := { dst := some 46, op := Op.binOp BinOp.sub 3 (Operand.tmp 43) (Operand.tmp 45) 3, type := 3, pos := "file.go:52", after := #[{ on := 4, ground := Ground.data }, { on := 6, ground := Ground.data }], guard := none }) (v := ?_) 7 rfl ?_ ?_
            rotate_left
            · (intro w hSw; (try dsimp only at hSw); first | (go_simp; done) | (go_simp; with_reducible rfl))
            try simp only [Act.put, List.setIfInBounds_toArray, List.set_cons_zero, List.set_cons_succ]
            refine tk (oi := { dst := some 47, op := Op.binOp BinOp.gtr 3 (Operand.tmp 39) (Operand.tmp 46) 3, type := 4, pos := "file.go:52", after := #[{ on := 0, ground := Ground.data }, { on := 7, ground := Ground.data }], guard := none }) (v := ?_) 8 rfl ?_ ?_
            rotate_left
            · (intro w hSw; (try dsimp only at hSw); first | (go_simp; done) | (go_simp; with_reducible rfl))
            try simp only [Act.put, List.setIfInBounds_toArray, List.set_cons_zero, List.set_cons_succ]
            refine tk (oi := { dst := some 38, op := Op.assign (Operand.tmp 47), type := 4, pos := "file.go:52", after := #[{ on := 8, ground := Ground.data }, { on := 6, ground := Ground.chain }], guard := none }) (v := ?_) 9 rfl ?_ ?_
            rotate_left
            · (intro w hSw; (try dsimp only at hSw); first | (go_simp; done) | (go_simp; with_reducible rfl))
            try simp only [Act.put, List.setIfInBounds_toArray, List.set_cons_zero, List.set_cons_succ]
            refine wpAnyH_done (by kernel_rfl) ?_ _
            go_wp2_with (fail)
            go_ret
            exact ⟨ret_int (by rw [HA.out]), D1.out⟩
        · have HA := Lib.hid (show admS s.data.toList k M = 0 by unfold admS; rw [hg, hn, if_neg hm, if_neg hfull]; rfl)
          have hf2 : ¬ (M.room - (bytesN M.L : Int) < (k : Int)) := by omega
          clear hg hn hm
          rcases hroad with hi | ⟨hi, hlt⟩
          · rw [hi] at HLK
            clear hi
            go_enter Tryz.func60, Tryz.ntmps60
            go_wp2_with (first
              | (at_lookup; refine wpList_look (HLK.out _ (Bel.refl _)) rfl _ _ rfl rfl rfl ?_)
              | (go_at_call 97; refine (isname_any s _ hsm.out).mono ?_; rintro e w1 ⟨rfl, hd⟩; rw [HN.out]
                 have HD := Lib.hid (W1.out.trans hd.bel)
                 have hln := HLN.out _ HD.out
                 have c0' := cell_later HD.out c0
                 have c1' := cell_later HD.out c1
                 have c4' := cell_later HD.out c4
                 clear hd))
            have hwr : IntKind.i64.wrap (M.room - (bytesN M.L : Int)) = M.room - (bytesN M.L : Int) := wrap_in (by omega) (by omega)
            refine wp_region_held_drew (S := fun y => y.cell? ⟨b, 0, none⟩ = some (.int .i64 M.room)) (by kernel_rfl) c0' (fun hHeld => ?_)
            refine tk (oi := { dst := some 39, op := Op.move (Operand.tmp 2), type := 3, pos := "file.go:52", after := #[], guard := none }) (v := ?_) 0 rfl ?_ ?_
            rotate_left
            · (intro w hSw; (try dsimp only at hSw); first | (go_simp; done) | (go_simp; with_reducible rfl))
            try simp only [Act.put, List.setIfInBounds_toArray, List.set_cons_zero, List.set_cons_succ]
            refine tk (oi := { dst := some 40, op := Op.move (Operand.tmp 0), type := 55, pos := "file.go:52", after := #[], guard := none }) (v := ?_) 1 rfl ?_ ?_
            rotate_left
            · (intro w hSw; (try dsimp only at hSw); first | (go_simp; done) | (go_simp; with_reducible rfl))
            try simp only [Act.put, List.setIfInBounds_toArray, List.set_cons_zero, List.set_cons_succ]
            refine tk (oi := { dst := some 41, op := Op.nilCheck (Operand.tmp 40), type := 0, pos := "file.go:52", after := #[{ on := 1, ground := Ground.data }], guard := none }) (v := ?_) 2 rfl ?_ ?_
            rotate_left
            · (intro w hSw; (try dsimp only at hSw); first | (go_simp; done) | (go_simp; with_reducible rfl))
            try simp only [Act.put, List.setIfInBounds_toArray, List.set_cons_zero, List.set_cons_succ]
            refine tk (oi := { dst := some 42, op := Op.fieldAddr 113 (Operand.tmp 41) 0, type := 0, pos := "file.go:52", after := #[{ on := 2, ground := Ground.data }], guard := none }) (v := ?_) 3 rfl ?_ ?_
            rotate_left
            · (intro w hSw; (try dsimp only at hSw); first | (go_simp; done) | (go_simp; with_reducible rfl))
            try simp only [Act.put, List.setIfInBounds_toArray, List.set_cons_zero, List.set_cons_succ]
            refine tk (oi := { dst := some 43, op := Op.load 3 (Operand.tmp 42), type := 3, pos := "file.go:52", after := #[{ on := 3, ground := Ground.data }], guard := none }) (v := ?_) 4 rfl ?_ ?_
            rotate_left
            · (intro w hSw; (try dsimp only at hSw); first | (go_simp; done) | (go_simp; with_reducible rfl))
            try simp only [Act.put, List.setIfInBounds_toArray, List.set_cons_zero, List.set_cons_succ]
            refine tk (oi := { dst := some 44, op := Op.move (Operand.tmp 0), type := 55, pos := "file.go:52", after := #[], guard := none }) (v := ?_) 5 rfl ?_ ?_
            rotate_left
            · (intro w hSw; (try dsimp only at hSw); first | (go_simp; done) | (go_simp; with_reducible rfl))
            try simp only [Act.put, List.setIfInBounds_toArray, List.set_cons_zero, List.set_cons_succ]
            refine wpAnyH_ready (rs := [6]) (by kernel_rfl) (by simp) ?_
            refine AllReadyH.cons (o := { dst := some 45, op := Op.call { callee := Callee.value (Operand.func 24), args := #[Operand.tmp 44], argTypes := #[55] }, type := 3, pos := "file.go:52", after := #[{ on := 5, ground := Ground.data }], guard := none }) rfl (fun K hK => ?_) AllReadyH.nil
            go_simp
            refine (pused_any n₀ _ b M F (HP.out.bel HD.out.drew) HSR.out hB).mono ?_
            rintro e w2 ⟨rfl, hb2⟩
            have d0 := cell_later hb2 (show w1.drew.cell? ⟨b, 0, none⟩ = _ from c0')
            have D1 := Lib.hid (HD.out.drew.trans hb2)
            clear hb2
            dsimp only
            refine hK.out _ _ d0 (fun hHeld => ?_)
            clear hK K
            try simp only [Act.put, List.setIfInBounds_toArray, List.set_cons_zero, List.set_cons_succ]
            refine tk (oi := { dst := some 46, op := Op.binOp BinOp.sub 3 (Operand.tmp 43) (Operand.tmp 45) 3, type := 3, pos := "file.go:52", after := #[{ on := 4, ground := Ground.data }, { on := 6, ground := Ground.data }], guard := none }) (v := ?_) 7 rfl ?_ ?_
            rotate_left
            · (intro w hSw; (try dsimp only at hSw); first | (go_simp; done) | (go_simp; with_reducible rfl))
            try simp only [Act.put, List.setIfInBounds_toArray, List.set_cons_zero, List.set_cons_succ]
            refine tk (oi := { dst := some 47, op := Op.binOp BinOp.gtr 3 (Operand.tmp 39) (Operand.tmp 46) 3, type := 4, pos := "file.go:52", after := #[{ on := 0, ground := Ground.data }, { on := 7, ground := Ground.data }], guard := none }) (v := ?_) 8 rfl ?_ ?_
            rotate_left
            · (intro w hSw; (try dsimp only at hSw); first | (go_simp; done) | (go_simp; with_reducible rfl))
            try simp only [Act.put, List.setIfInBounds_toArray, List.set_cons_zero, List.set_cons_succ]
            refine tk (oi := { dst := some 38, op := Op.assign (Operand.tmp 47), type := 4, pos := "file.go:52", after := #[{ on := 8, ground := Ground.data }, { on := 6, ground := Ground.chain }], guard := none }) (v := ?_) 9 rfl ?_ ?_
            rotate_left
            · (intro w hSw; (try dsimp only at hSw); first | (go_simp; done) | (go_simp; with_reducible rfl))
            try simp only [Act.put, List.setIfInBounds_toArray, List.set_cons_zero, List.set_cons_succ]
            refine wpAnyH_done (by kernel_rfl) ?_ _
            go_wp2_with (fail)
            go_ret
            exact ⟨ret_int (by rw [HA.out]), D1.out⟩
          · rw [hi] at HLK
            clear hi
            go_enter Tryz.func60, Tryz.ntmps60
            go_wp2_with (first
              | (at_lookup; refine wpList_look (HLK.out _ (Bel.refl _)) rfl _ _ rfl rfl rfl ?_)
              | (go_at_call 97; refine (isname_any s _ hsm.out).mono ?_; rintro e w1 ⟨rfl, hd⟩; rw [HN.out]
                 have HD := Lib.hid (W1.out.trans hd.bel)
                 have hln := HLN.out _ HD.out
                 have c0' := cell_later HD.out c0
                 have c1' := cell_later HD.out c1
                 have c4' := cell_later HD.out c4
                 clear hd))
            have hwr : IntKind.i64.wrap (M.room - (bytesN M.L : Int)) = M.room - (bytesN M.L : Int) := wrap_in (by omega) (by omega)
            refine wp_region_held_drew (S := fun y => y.cell? ⟨b, 0, none⟩ = some (.int .i64 M.room)) (by kernel_rfl) c0' (fun hHeld => ?_)
            refine tk (oi := { dst := some 39, op := Op.move (Operand.tmp 2), type := 3, pos := "file.go:52", after := #[], guard := none }) (v := ?_) 0 rfl ?_ ?_
            rotate_left
            · (intro w hSw; (try dsimp only at hSw); first | (go_simp; done) | (go_simp; with_reducible rfl))
            try simp only [Act.put, List.setIfInBounds_toArray, List.set_cons_zero, List.set_cons_succ]
            refine tk (oi := { dst := some 40, op := Op.move (Operand.tmp 0), type := 55, pos := "file.go:52", after := #[], guard := none }) (v := ?_) 1 rfl ?_ ?_
            rotate_left
            · (intro w hSw; (try dsimp only at hSw); first | (go_simp; done) | (go_simp; with_reducible rfl))
            try simp only [Act.put, List.setIfInBounds_toArray, List.set_cons_zero, List.set_cons_succ]
            refine tk (oi := { dst := some 41, op := Op.nilCheck (Operand.tmp 40), type := 0, pos := "file.go:52", after := #[{ on := 1, ground := Ground.data }], guard := none }) (v := ?_) 2 rfl ?_ ?_
            rotate_left
            · (intro w hSw; (try dsimp only at hSw); first | (go_simp; done) | (go_simp; with_reducible rfl))
            try simp only [Act.put, List.setIfInBounds_toArray, List.set_cons_zero, List.set_cons_succ]
            refine tk (oi := { dst := some 42, op := Op.fieldAddr 113 (Operand.tmp 41) 0, type := 0, pos := "file.go:52", after := #[{ on := 2, ground := Ground.data }], guard := none }) (v := ?_) 3 rfl ?_ ?_
            rotate_left
            · (intro w hSw; (try dsimp only at hSw); first | (go_simp; done) | (go_simp; with_reducible rfl))
            try simp only [Act.put, List.setIfInBounds_toArray, List.set_cons_zero, List.set_cons_succ]
            refine tk (oi := { dst := some 43, op := Op.load 3 (Operand.tmp 42), type := 3, pos := "file.go:52", after := #[{ on := 3, ground := Ground.data }], guard := none }) (v := ?_) 4 rfl ?_ ?_
            rotate_left
            · (intro w hSw; (try dsimp only at hSw); first | (go_simp; done) | (go_simp; with_reducible rfl))
            try simp only [Act.put, List.setIfInBounds_toArray, List.set_cons_zero, List.set_cons_succ]
            refine tk (oi := { dst := some 44, op := Op.move (Operand.tmp 0), type := 55, pos := "file.go:52", after := #[], guard := none }) (v := ?_) 5 rfl ?_ ?_
            rotate_left
            · (intro w hSw; (try dsimp only at hSw); first | (go_simp; done) | (go_simp; with_reducible rfl))
            try simp only [Act.put, List.setIfInBounds_toArray, List.set_cons_zero, List.set_cons_succ]
            refine wpAnyH_ready (rs := [6]) (by kernel_rfl) (by simp) ?_
            refine AllReadyH.cons (o := { dst := some 45, op := Op.call { callee := Callee.value (Operand.func 24), args := #[Operand.tmp 44], argTypes := #[55] }, type := 3, pos := "file.go:52", after := #[{ on := 5, ground := Ground.data }], guard := none }) rfl (fun K hK => ?_) AllReadyH.nil
            go_simp
            refine (pused_any n₀ _ b M F (HP.out.bel HD.out.drew) HSR.out hB).mono ?_
            rintro e w2 ⟨rfl, hb2⟩
            have d0 := cell_later hb2 (show w1.drew.cell? ⟨b, 0, none⟩ = _ from c0')
            have D1 := Lib.hid (HD.out.drew.trans hb2)
            clear hb2
            dsimp only
            refine hK.out _ _ d0 (fun hHeld => ?_)
            clear hK K
            try simp only [Act.put, List.setIfInBounds_toArray, List.set_cons_zero, List.set_cons_succ]
            refine tk (oi := { dst := some 46, op := Op.binOp BinOp.sub 3 (Operand.tmp 43) (Operand.tmp 45) 3, type := 3, pos := "file.go:52", after := #[{ on := 4, ground := Ground.data }, { on := 6, ground := Ground.data }], guard := none }) (v := ?_) 7 rfl ?_ ?_
            rotate_left
            · (intro w hSw; (try dsimp only at hSw); first | (go_simp; done) | (go_simp; with_reducible rfl))
            try simp only [Act.put, List.setIfInBounds_toArray, List.set_cons_zero, List.set_cons_succ]
            refine tk (oi := { dst := some 47, op := Op.binOp BinOp.gtr 3 (Operand.tmp 39) (Operand.tmp 46) 3, type := 4, pos := "file.go:52", after := #[{ on := 0, ground := Ground.data }, { on := 7, ground := Ground.data }], guard := none }) (v := ?_) 8 rfl ?_ ?_
            rotate_left
            · (intro w hSw; (try dsimp only at hSw); first | (go_simp; done) | (go_simp; with_reducible rfl))
            try simp only [Act.put, List.setIfInBounds_toArray, List.set_cons_zero, List.set_cons_succ]
            refine tk (oi := { dst := some 38, op := Op.assign (Operand.tmp 47), type := 4, pos := "file.go:52", after := #[{ on := 8, ground := Ground.data }, { on := 6, ground := Ground.chain }], guard := none }) (v := ?_) 9 rfl ?_ ?_
            rotate_left
            · (intro w hSw; (try dsimp only at hSw); first | (go_simp; done) | (go_simp; with_reducible rfl))
            try simp only [Act.put, List.setIfInBounds_toArray, List.set_cons_zero, List.set_cons_succ]
            refine wpAnyH_done (by kernel_rfl) ?_ _
            go_wp2_with (fail)
            go_ret
            exact ⟨ret_int (by rw [HA.out]), D1.out⟩
end Go.Proofs.YtfbiinnenlgkfaaGreatDoor
/- file's turn, whatever the change. -/
namespace Go.Proofs.YtfbiinnenlgkfaaGreatDoor
open Go.RowKit Go.Deep Go.Maps

def Hdr (w : World) (b : Nat) (M : RS) (mv : Value) (t : Int) : Prop :=
  w.heap[b]? = some (.cells #[.int .i64 M.room, mv, .bool (decide (0 ≤ M.turns)), .int .i64 t, .bool M.gone] 113 (0, 0)) ∧ (0 ≤ M.turns → t = M.turns) ∧ in64 t
theorem turnS_zero {M : RS} (h : M.turns = 0) : turnS M = (7, { M with gone := true }) := by unfold turnS; rw [if_pos h]
theorem turnS_pos {M : RS} (h : 0 < M.turns) : turnS M = (0, { M with turns := M.turns - 1 }) := by unfold turnS; rw [if_neg (by omega), if_pos h]
theorem turnS_neg {M : RS} (h : M.turns < 0) : turnS M = (0, M) := by unfold turnS; rw [if_neg (by omega), if_neg (by omega)]
set_option maxHeartbeats 2000000 in
theorem pturn_any (w : World) (b : Nat) (M : RS) (mv : Value) (t : Int) (g : Nat) (lb : Array Value) (h : Hdr w b M mv t) (R : World → Prop) (hcall : ∀ x : World, (callFunc g lb).run Tryz.prog x = .ok (.enter g lb) x)
    (hc : ∀ w1 t1, Hdr w1 b (turnS M).2 mv t1 → Keep [b] w w1 → Calls Tryz.prog g lb w1 fun e w' => e = .returned (.tuple #[]) ∧ R w') :
    Calls Tryz.prog 61 #[.pointer (some ⟨b, 0, none⟩), .func (.func g) #[] lb] w fun e w' => e = .returned (.int .i64 (turnS M).1) ∧
      (M.turns = 0 → Hdr w' b (turnS M).2 mv t ∧ Keep [b] w w') ∧ (M.turns ≠ 0 → R w') := by
  obtain ⟨hb, ht, h64⟩ := h
  have c2 : w.cell? ⟨b, 2, none⟩ = some (.bool (decide (0 ≤ M.turns))) := by simp [World.cell?, hb]
  have c3 : w.cell? ⟨b, 3, none⟩ = some (.int .i64 t) := by simp [World.cell?, hb]
  have c4 : w.cell? ⟨b, 4, none⟩ = some (.bool M.gone) := by simp [World.cell?, hb]
  have f3 : w.frozen? ⟨b, 3, none⟩ = false := by simp [World.frozen?, hb]
  have f4 : w.frozen? ⟨b, 4, none⟩ = false := by simp [World.frozen?, hb]
  have HB := Lib.hid hb
  have HC := Lib.hid hc
  have H64 := Lib.hid h64
  clear hc hb
  rcases Int.lt_trichotomy M.turns 0 with hz | hz | hz
  · have hd : decide (0 ≤ M.turns) = false := by rw [decide_eq_false_iff_not]; omega
    rw [turnS_neg hz] at HC ⊢
    have HW := Lib.hid (HC.out w t ⟨HB.out, ht, h64⟩ (Keep.refl _ w))
    have HN := Lib.hid (show M.turns ≠ 0 by omega)
    rw [hd] at c2
    clear hd ht h64 hz
    go_enter Tryz.func61, Tryz.ntmps61
    go_wp2_with (fail)
    refine HW.out.mono ?_
    rintro e w1 ⟨rfl, hr⟩
    have HR := Lib.hid hr
    clear hr
    go_wp2_with (fail)
    go_ret
    exact ⟨rfl, fun h => absurd h HN.out, fun _ => HR.out⟩
  · have hd : decide (0 ≤ M.turns) = true := by rw [decide_eq_true_eq]; omega
    have hD := Lib.hid hd
    rw [turnS_zero hz] at HC ⊢
    rw [hd] at c2
    have HZ := Lib.hid hz
    have hT := Lib.hid ht
    have ht0 : t = 0 := by rw [ht (by omega)]; exact hz
    subst ht0
    clear hd ht h64 hz
    go_enter Tryz.func61, Tryz.ntmps61
    go_wp2_with (fail)
    go_ret
    exact ⟨rfl, fun _ => ⟨⟨by rw [blk_set HB.out 4 _]; rfl, hT.out, H64.out⟩, keep_set w b 4 _⟩, fun h => absurd HZ.out h⟩
  · have hd : decide (0 ≤ M.turns) = true := by rw [decide_eq_true_eq]; omega
    have hd' : decide (0 ≤ M.turns - 1) = true := by rw [decide_eq_true_eq]; omega
    rw [turnS_pos hz] at HC ⊢
    have ht0 : t = M.turns := ht (by omega)
    subst ht0
    obtain ⟨h1, h2⟩ := h64
    have HW := Lib.hid (HC.out (w.setCell ⟨b, 3, none⟩ (.int .i64 (M.turns - 1))) (M.turns - 1) ⟨by rw [blk_set HB.out 3 _]; simp only [hd, hd']; rfl, fun _ => rfl, by unfold in64; omega⟩ (keep_set w b 3 _))
    have HN := Lib.hid (show M.turns ≠ 0 by omega)
    have hne : (M.turns == 0) = false := by rw [beq_eq_false_iff_ne]; omega
    rw [hd] at c2
    clear hd hd' ht
    go_enter Tryz.func61, Tryz.ntmps61
    go_wp2_with (fail)
    refine HW.out.mono ?_
    rintro e w1 ⟨rfl, hr⟩
    have HR := Lib.hid hr
    clear hr
    go_wp2_with (fail)
    go_ret
    exact ⟨rfl, fun h => absurd h HN.out, fun _ => HR.out⟩
end Go.Proofs.YtfbiinnenlgkfaaGreatDoor
/- The changes of file that Flush, Cut, Drop and Move hand to turn. -/
namespace Go.Proofs.YtfbiinnenlgkfaaGreatDoor
open Go.RowKit Go.Deep Go.Maps

theorem cell_ne_map {w : World} {R : Value → Option (DataW Value × List MemPlace)} {k : TypeId} {mb n : Nat} {D : DataW Value} (h : w.ownsMap Tryz.prog k R mb n D) {B o : Nat} {v : Value} (hc : w.cell? ⟨B, o, none⟩ = some v) : B ≠ mb := by
  rintro rfl
  obtain ⟨es, clock, hm, _⟩ := h
  simp [World.cell?, hm] at hc
theorem step_store {ops : Array Oper} {o : Oper} {a : Act} {K : Act → World → Prop} {Q : Exit → Act → World → Prop} {E : Prop} {x : World} (hgd : o.guard = none) (m y v : Operand)
    (ho : o.op = Op.mapUpdate 111 m y v) {mb n : Nat} {D : DataW Value} {s : ByteArray} {val : Value} (hm : a.eval m = .map (some mb)) (hy : a.eval y = .string s) (hv : a.eval v = val)
    (hown : x.ownsMap Tryz.prog 9 RV mb n D) (hn : n ≤ 1000000) (hs : s.size ≤ maxLen)
    (h : ∀ w', w'.ownsMap Tryz.prog 9 RV mb (n + 1) (D.put (.string s.data.toList) (.held val)) → Keep [mb] x w' → K (a.put o.dst undef) w') : if Region.wanted o (yielded ops a.tmps) = true then o.wp Tryz.prog a x K Q else E := by
  rw [if_pos (by simp [Region.wanted, hgd])]
  obtain ⟨w', hrun, r1, r2⟩ := hown.store keyLaw Tryz.underlying111 (by unfold maxLen; omega) (key_is s hs) (rfl : RV val = some (.held val, []))
  unfold Oper.wp
  simp [execOp, ho, hm, hy, hv, hrun, Result.andThen]
  exact h w' r1 (keep_turned r2)
theorem step_del {ops : Array Oper} {o : Oper} {a : Act} {K : Act → World → Prop} {Q : Exit → Act → World → Prop} {E : Prop} {x : World} (hgd : o.guard = none) (m y : Operand)
    (ho : o.op = Op.call { callee := Callee.builtin Builtin.delete, args := #[m, y], argTypes := #[111, 9] }) {mb n : Nat} {D : DataW Value} {s : ByteArray} (hm : a.eval m = .map (some mb)) (hy : a.eval y = .string s)
    (hown : x.ownsMap Tryz.prog 9 RV mb n D) (hs : s.size ≤ maxLen)
    (h : ∀ w', w'.ownsMap Tryz.prog 9 RV mb n (D.del (.string s.data.toList)) → Keep [mb] x w' → K (a.put o.dst (.tuple #[])) w') : if Region.wanted o (yielded ops a.tmps) = true then o.wp Tryz.prog a x K Q else E := by
  rw [if_pos (by simp [Region.wanted, hgd])]
  obtain ⟨w', hrun, r1, r2⟩ := hown.drop keyLaw Tryz.underlying111 (key_is s hs) o.type
  unfold Oper.wp
  simp [execOp, ho, resolve, invoke, builtin, hm, hy, hrun, Result.andThen]
  exact h w' r1 (keep_turned r2)
def Chg (n₀ : Nat) (w x : World) (b : Nat) (M : RS) (mb : Nat) (t : Int) (V : List UInt8 → Value) (L L' : List FI) (G : List Nat) : Prop :=
  ∃ D' V', Hdr x b M (.map (some mb)) t ∧ FilesV n₀ x mb D' V' L' none ∧ Keep G w x ∧ ∀ z ∈ L', ∀ k, (V' z.name).ownBlock = some k → (∃ u ∈ L, (V u.name).ownBlock = some k) ∨ w.heap.size ≤ k
theorem Hdr.keep {w x : World} {b : Nat} {M : RS} {mv : Value} {t : Int} {G : List Nat} (h : Hdr w b M mv t) (hk : Keep G w x) (hb : b ∉ G) : Hdr x b M mv t := ⟨hk.at h.1 hb, h.2⟩
theorem Hdr.ne {w : World} {b : Nat} {M : RS} {mv : Value} {t : Int} {R : Value → Option (DataW Value × List MemPlace)} {k : TypeId} {mb n : Nat} {D : DataW Value} (h : Hdr w b M mv t) (ho : w.ownsMap Tryz.prog k R mb n D) : b ≠ mb := by
  rintro rfl
  obtain ⟨es, clock, hm, _⟩ := ho
  rw [h.1] at hm; cases hm
set_option maxHeartbeats 4000000 in
set_option maxRecDepth 20000 in
theorem flushcl_any (n₀ : Nat) (w : World) (b mb : Nat) (M : RS) (t : Int) (D : DataW Value) (V : List UInt8 → Value) (Bc Bf Bn : Nat) (s : ByteArray) (y : FI) (h : Hdr w b M (.map (some mb)) t) (hV : FilesV n₀ w mb D V M.L none) (hS : Srt M.L) (hL : M.L.length ≤ 1000)
    (hs : s.size ≤ maxLen) (hy : getF s.data.toList M.L = some y) {p : Option Addr} {n cap : Nat} (hp : V y.name = .slice p n cap) (hn : y.bytes.length = n)
    (e0 : w.cell? ⟨Bc, 0, none⟩ = some (.slice p n cap)) (e1 : w.cell? ⟨Bc, 1, none⟩ = some (.int .i64 y.safe)) (e2 : w.cell? ⟨Bf, 0, none⟩ = some (.pointer (some ⟨b, 0, none⟩))) (e3 : w.cell? ⟨Bn, 0, none⟩ = some (.string s)) :
    Calls Tryz.prog 120 #[.pointer (some ⟨Bc, 0, none⟩), .pointer (some ⟨Bf, 0, none⟩), .pointer (some ⟨Bn, 0, none⟩)] w fun e w' =>
      e = .returned (.tuple #[]) ∧ Chg n₀ w w' b M mb t V M.L (insS { y with safe := y.bytes.length } M.L) [mb] := by
  have e4 : w.cell? ⟨b, 1, none⟩ = some (.map (some mb)) := by simp [World.cell?, h.1]
  have hSK : ∀ G x z, Keep G x z → Bc ∉ G → Bf ∉ G → Bn ∉ G → b ∉ G →
      (x.cell? ⟨Bc, 0, none⟩ = some (.slice p n cap) ∧ x.cell? ⟨Bc, 1, none⟩ = some (.int .i64 y.safe) ∧ x.cell? ⟨Bf, 0, none⟩ = some (.pointer (some ⟨b, 0, none⟩)) ∧ x.cell? ⟨Bn, 0, none⟩ = some (.string s) ∧ x.cell? ⟨b, 1, none⟩ = some (.map (some mb))) →
      (z.cell? ⟨Bc, 0, none⟩ = some (.slice p n cap) ∧ z.cell? ⟨Bc, 1, none⟩ = some (.int .i64 y.safe) ∧ z.cell? ⟨Bf, 0, none⟩ = some (.pointer (some ⟨b, 0, none⟩)) ∧ z.cell? ⟨Bn, 0, none⟩ = some (.string s) ∧ z.cell? ⟨b, 1, none⟩ = some (.map (some mb))) :=
    fun G x z hk h1 h2 h3 h4 hc => ⟨hk.cell hc.1 h1, hk.cell hc.2.1 h1, hk.cell hc.2.2.1 h2, hk.cell hc.2.2.2.1 h3, hk.cell hc.2.2.2.2 h4⟩
  have HSK := Lib.hid hSK
  have N1 := cell_ne_map hV.own e0
  have N2 := cell_ne_map hV.own e2
  have N3 := cell_ne_map hV.own e3
  have N4 := h.ne hV.own
  have HV := Lib.hid hV
  have HH := Lib.hid h
  have HS := Lib.hid hS
  have HY := Lib.hid hy
  have HP := Lib.hid hp
  have HN := Lib.hid hn
  clear hSK hV h hS hy hp hn
  go_enter Tryz.func120, Tryz.ntmps120
  go_wp2_with (fail)
  refine wp_region_held_drew (S := fun z => (z.cell? ⟨Bc, 0, none⟩ = some (.slice p n cap) ∧ z.cell? ⟨Bc, 1, none⟩ = some (.int .i64 y.safe) ∧ z.cell? ⟨Bf, 0, none⟩ = some (.pointer (some ⟨b, 0, none⟩)) ∧ z.cell? ⟨Bn, 0, none⟩ = some (.string s) ∧ z.cell? ⟨b, 1, none⟩ = some (.map (some mb)))) (by kernel_rfl) ⟨e0, e1, e2, e3, e4⟩ (fun hHeld => ?_)
  refine tk (oi := { dst := some 3, op := Op.load 55 (Operand.tmp 1), type := 55, pos := "file.go:75", after := #[], guard := none }) (v := ?_) 0 rfl ?_ ?_
  rotate_left
  · (intro w hSw; (try dsimp only at hSw); first | (go_simp; done) | (go_simp; with_reducible rfl))
  try simp only [Act.put, List.setIfInBounds_toArray, List.set_cons_zero, List.set_cons_succ]
  refine tk (oi := { dst := some 4, op := Op.nilCheck (Operand.tmp 3), type := 0, pos := "file.go:75", after := #[{ on := 0, ground := Ground.data }], guard := none }) (v := ?_) 1 rfl ?_ ?_
  rotate_left
  · (intro w hSw; (try dsimp only at hSw); first | (go_simp; done) | (go_simp; with_reducible rfl))
  try simp only [Act.put, List.setIfInBounds_toArray, List.set_cons_zero, List.set_cons_succ]
  refine tk (oi := { dst := some 5, op := Op.fieldAddr 113 (Operand.tmp 4) 1, type := 0, pos := "file.go:75", after := #[{ on := 1, ground := Ground.data }], guard := none }) (v := ?_) 2 rfl ?_ ?_
  rotate_left
  · (intro w hSw; (try dsimp only at hSw); first | (go_simp; done) | (go_simp; with_reducible rfl))
  try simp only [Act.put, List.setIfInBounds_toArray, List.set_cons_zero, List.set_cons_succ]
  refine tk (oi := { dst := some 6, op := Op.load 111 (Operand.tmp 5), type := 111, pos := "file.go:75", after := #[{ on := 2, ground := Ground.data }], guard := none }) (v := ?_) 3 rfl ?_ ?_
  rotate_left
  · (intro w hSw; (try dsimp only at hSw); first | (go_simp; done) | (go_simp; with_reducible rfl))
  try simp only [Act.put, List.setIfInBounds_toArray, List.set_cons_zero, List.set_cons_succ]
  refine tk (oi := { dst := some 7, op := Op.load 9 (Operand.tmp 2), type := 9, pos := "file.go:75", after := #[], guard := none }) (v := ?_) 4 rfl ?_ ?_
  rotate_left
  · (intro w hSw; (try dsimp only at hSw); first | (go_simp; done) | (go_simp; with_reducible rfl))
  try simp only [Act.put, List.setIfInBounds_toArray, List.set_cons_zero, List.set_cons_succ]
  refine tk (oi := { dst := some 8, op := Op.load 116 (Operand.tmp 0), type := 116, pos := "file.go:75", after := #[], guard := none }) (v := ?_) 5 rfl ?_ ?_
  rotate_left
  · (intro w hSw; (try dsimp only at hSw); first | (go_simp; done) | (go_simp; with_reducible rfl))
  try simp only [Act.put, List.setIfInBounds_toArray, List.set_cons_zero, List.set_cons_succ]
  refine wpAnyH_ready (rs := [6]) (by kernel_rfl) (by simp) ?_
  refine AllReadyH.cons (o := { dst := some 9, op := Op.call { callee := Callee.value (Operand.func 92), args := #[Operand.tmp 8], argTypes := #[116] }, type := 116, pos := "file.go:75", after := #[{ on := 5, ground := Ground.data }], guard := none }) rfl (fun K hK => ?_) AllReadyH.nil
  go_simp
  refine (saved_any _ p n cap y.safe).mono ?_
  rintro e w2 ⟨rfl, hb2⟩
  have D1 := Lib.hid (((Bel.refl w).drew).trans hb2)
  have S2 := HSK.out [] _ _ (Keep.of_bel hb2 []) (by simp) (by simp) (by simp) (by simp) hHeld
  clear hb2
  dsimp only
  refine hK.out _ _ S2 (fun hHeld2 => ?_)
  clear hK K
  try simp only [Act.put, List.setIfInBounds_toArray, List.set_cons_zero, List.set_cons_succ]
  refine wpAnyH_ready (rs := [7]) (by kernel_rfl) (by simp) ?_
  refine AllReadyH.cons (o := { dst := none, op := Op.mapUpdate 111 (Operand.tmp 6) (Operand.tmp 7) (Operand.tmp 9), type := 0, pos := "file.go:75", after := #[{ on := 3, ground := Ground.data }, { on := 4, ground := Ground.data }, { on := 6, ground := Ground.data }, { on := 6, ground := Ground.chain }, { on := 0, ground := Ground.phase }, { on := 1, ground := Ground.phase }, { on := 2, ground := Ground.phase }, { on := 3, ground := Ground.phase }, { on := 4, ground := Ground.phase }, { on := 5, ground := Ground.phase }, { on := 6, ground := Ground.phase }], guard := none }) rfl (fun K hK => ?_) AllReadyH.nil
  refine step_store (mb := mb) (s := s) (val := .agg #[.slice p n cap, .int .i64 n]) rfl (.tmp 6) (.tmp 7) (.tmp 9) rfl rfl rfl rfl (HV.out.bel D1.out).own (by omega) hs ?_
  intro w3 ho hk
  refine hK.out _ _ (HSK.out [mb] _ _ hk (by simpa using N1) (by simpa using N2) (by simpa using N3) (by simpa using N4) S2) (fun hHeld3 => ?_)
  clear hK K
  try simp only [Act.put, List.setIfInBounds_toArray, List.set_cons_zero, List.set_cons_succ]
  refine wpAnyH_done (by kernel_rfl) ?_ _
  have HO := Lib.hid ho
  have HK := Lib.hid hk
  clear ho hk hHeld hHeld2 hHeld3 S2
  go_wp2_with (fail)
  go_end0
  have hym := getF_mem HY.out
  have hnm := getF_name HY.out
  have hv := (HV.out.bel D1.out).val y hym (by simp)
  have hval := hv.keep HK.out (fun k hk1 hk2 => by
    rw [List.mem_singleton] at hk2
    subst hk2
    exact (HV.out.bel D1.out).ne_row hv hk1)
  have hput := FilesV.put (y := { y with safe := y.bytes.length }) (v' := V y.name) HS.out ((HV.out.bel D1.out).weak y.name) (x := w3) (n := M.L.length + 1) (by
      have := HO.out
      rw [← hnm] at this
      simp only [conV, HP.out, HN.out]
      exact this) HK.out hval (fun z hz hne k hk => (HV.out.apart y hym z hz (fun e => hne e.symm) k hk))
  refine ⟨rfl, _, _, (HH.out.keep (Keep.of_bel D1.out []) (by simp)).keep HK.out (by simpa using N4), hput, (Keep.of_bel D1.out _).trans HK.out (fun x hx => Or.inl hx), fun z hz k hk => Or.inl ?_⟩
  rcases mem_ins hz with rfl | hz
  · simp only [if_true] at hk
    exact ⟨y, hym, hk⟩
  · by_cases he : z.name = y.name
    · simp only [he, if_true] at hk
      exact ⟨y, hym, hk⟩
    · simp only [he, if_false] at hk
      exact ⟨z, hz, hk⟩
end Go.Proofs.YtfbiinnenlgkfaaGreatDoor
/- The changes of file that Cut, Drop and Move hand to turn. -/
namespace Go.Proofs.YtfbiinnenlgkfaaGreatDoor
open Go.RowKit Go.Deep Go.Maps

theorem slice_block (p : Option Addr) (n m cap : Nat) : (Value.slice p n cap).ownBlock = (Value.slice p m cap).ownBlock := by cases p <;> rfl
theorem own_shape {B : Nat} {w : World} {p : Option Addr} {n cap : Nat} {l : List UInt8} (h : Own B w (.slice p n cap) l) : n ≤ cap ∧ cap ≤ maxLen ∧ (∀ a, p = some a → a = ⟨a.block, 0, none⟩) ∧ (p = none → n = 0 ∧ cap = 0) := by
  rcases h.2 with ⟨h1, h0⟩ | ⟨g, cap', cur, h1, _, _, hc, hx, _⟩
  · simp only [Value.slice.injEq] at h1
    obtain ⟨rfl, rfl, rfl⟩ := h1
    exact ⟨Nat.le_refl _, by unfold maxLen; omega, by simp, fun _ => ⟨rfl, rfl⟩⟩
  · simp only [Value.slice.injEq] at h1
    obtain ⟨rfl, rfl, rfl⟩ := h1
    exact ⟨hc, hx, by simp, by simp⟩

set_option maxHeartbeats 4000000 in
set_option maxRecDepth 20000 in
theorem cutcl_any (n₀ : Nat) (w : World) (b mb : Nat) (M : RS) (t : Int) (D : DataW Value) (V : List UInt8 → Value) (Bc Bi Bf Bn : Nat) (s : ByteArray) (y : FI) (h : Hdr w b M (.map (some mb)) t) (hV : FilesV n₀ w mb D V M.L none) (hS : Srt M.L) (hL : M.L.length ≤ 1000)
    (hs : s.size ≤ maxLen) (hy : getF s.data.toList M.L = some y) {p : Option Addr} {n cap : Nat} (hp : V y.name = .slice p n cap) (hn : y.bytes.length = n) (m : Nat) (hm : m ≤ n) (e5 : w.cell? ⟨Bi, 0, none⟩ = some (.int .i64 m))
    (e0 : w.cell? ⟨Bc, 0, none⟩ = some (.slice p n cap)) (e1 : w.cell? ⟨Bc, 1, none⟩ = some (.int .i64 y.safe)) (e2 : w.cell? ⟨Bf, 0, none⟩ = some (.pointer (some ⟨b, 0, none⟩))) (e3 : w.cell? ⟨Bn, 0, none⟩ = some (.string s)) :
    Calls Tryz.prog 177 #[.pointer (some ⟨Bc, 0, none⟩), .pointer (some ⟨Bi, 0, none⟩), .pointer (some ⟨Bf, 0, none⟩), .pointer (some ⟨Bn, 0, none⟩)] w fun e w' =>
      e = .returned (.tuple #[]) ∧ Chg n₀ w w' b M mb t V M.L (insS { y with bytes := y.bytes.take m, safe := min y.safe m } M.L) [mb] := by
  have e4 : w.cell? ⟨b, 1, none⟩ = some (.map (some mb)) := by simp [World.cell?, h.1]
  have hSK : ∀ G x z, Keep G x z → Bc ∉ G → Bf ∉ G → Bn ∉ G → b ∉ G → Bi ∉ G →
      (x.cell? ⟨Bc, 0, none⟩ = some (.slice p n cap) ∧ x.cell? ⟨Bc, 1, none⟩ = some (.int .i64 y.safe) ∧ x.cell? ⟨Bf, 0, none⟩ = some (.pointer (some ⟨b, 0, none⟩)) ∧ x.cell? ⟨Bn, 0, none⟩ = some (.string s) ∧ x.cell? ⟨b, 1, none⟩ = some (.map (some mb)) ∧ x.cell? ⟨Bi, 0, none⟩ = some (.int .i64 m)) →
      (z.cell? ⟨Bc, 0, none⟩ = some (.slice p n cap) ∧ z.cell? ⟨Bc, 1, none⟩ = some (.int .i64 y.safe) ∧ z.cell? ⟨Bf, 0, none⟩ = some (.pointer (some ⟨b, 0, none⟩)) ∧ z.cell? ⟨Bn, 0, none⟩ = some (.string s) ∧ z.cell? ⟨b, 1, none⟩ = some (.map (some mb)) ∧ z.cell? ⟨Bi, 0, none⟩ = some (.int .i64 m)) :=
    fun G x z hk h1 h2 h3 h4 h5 hc => ⟨hk.cell hc.1 h1, hk.cell hc.2.1 h1, hk.cell hc.2.2.1 h2, hk.cell hc.2.2.2.1 h3, hk.cell hc.2.2.2.2.1 h4, hk.cell hc.2.2.2.2.2 h5⟩
  have HSK := Lib.hid hSK
  have N1 := cell_ne_map hV.own e0
  have N2 := cell_ne_map hV.own e2
  have N3 := cell_ne_map hV.own e3
  have N4 := h.ne hV.own
  have N5 := cell_ne_map hV.own e5
  obtain ⟨hp1, hp2, hp3, hp4⟩ : n ≤ cap ∧ cap ≤ maxLen ∧ (∀ a, p = some a → a = ⟨a.block, 0, none⟩) ∧ (p = none → n = 0 ∧ cap = 0) := own_shape (hp ▸ hV.val y (getF_mem hy) (by simp))
  have HF := Lib.hid (fun x => first_any x p n cap y.safe m hm hp1 hp2 hp3 hp4)
  clear hp1 hp2 hp3 hp4
  have HV := Lib.hid hV
  have HH := Lib.hid h
  have HS := Lib.hid hS
  have HY := Lib.hid hy
  have HP := Lib.hid hp
  have HN := Lib.hid hn
  clear hSK hV h hS hy hp hn
  go_enter Tryz.func177, Tryz.ntmps177
  go_wp2_with (fail)
  refine wp_region_held_drew (S := fun z => (z.cell? ⟨Bc, 0, none⟩ = some (.slice p n cap) ∧ z.cell? ⟨Bc, 1, none⟩ = some (.int .i64 y.safe) ∧ z.cell? ⟨Bf, 0, none⟩ = some (.pointer (some ⟨b, 0, none⟩)) ∧ z.cell? ⟨Bn, 0, none⟩ = some (.string s) ∧ z.cell? ⟨b, 1, none⟩ = some (.map (some mb)) ∧ z.cell? ⟨Bi, 0, none⟩ = some (.int .i64 m))) (by kernel_rfl) ⟨e0, e1, e2, e3, e4, e5⟩ (fun hHeld => ?_)
  refine tk (oi := { dst := some 4, op := Op.load 55 (Operand.tmp 2), type := 55, pos := "file.go:86", after := #[], guard := none }) (v := ?_) 0 rfl ?_ ?_
  rotate_left
  · (intro w hSw; (try dsimp only at hSw); first | (go_simp; done) | (go_simp; with_reducible rfl))
  try simp only [Act.put, List.setIfInBounds_toArray, List.set_cons_zero, List.set_cons_succ]
  refine tk (oi := { dst := some 5, op := Op.nilCheck (Operand.tmp 4), type := 0, pos := "file.go:86", after := #[{ on := 0, ground := Ground.data }], guard := none }) (v := ?_) 1 rfl ?_ ?_
  rotate_left
  · (intro w hSw; (try dsimp only at hSw); first | (go_simp; done) | (go_simp; with_reducible rfl))
  try simp only [Act.put, List.setIfInBounds_toArray, List.set_cons_zero, List.set_cons_succ]
  refine tk (oi := { dst := some 6, op := Op.fieldAddr 113 (Operand.tmp 5) 1, type := 0, pos := "file.go:86", after := #[{ on := 1, ground := Ground.data }], guard := none }) (v := ?_) 2 rfl ?_ ?_
  rotate_left
  · (intro w hSw; (try dsimp only at hSw); first | (go_simp; done) | (go_simp; with_reducible rfl))
  try simp only [Act.put, List.setIfInBounds_toArray, List.set_cons_zero, List.set_cons_succ]
  refine tk (oi := { dst := some 7, op := Op.load 111 (Operand.tmp 6), type := 111, pos := "file.go:86", after := #[{ on := 2, ground := Ground.data }], guard := none }) (v := ?_) 3 rfl ?_ ?_
  rotate_left
  · (intro w hSw; (try dsimp only at hSw); first | (go_simp; done) | (go_simp; with_reducible rfl))
  try simp only [Act.put, List.setIfInBounds_toArray, List.set_cons_zero, List.set_cons_succ]
  refine tk (oi := { dst := some 8, op := Op.load 9 (Operand.tmp 3), type := 9, pos := "file.go:86", after := #[], guard := none }) (v := ?_) 4 rfl ?_ ?_
  rotate_left
  · (intro w hSw; (try dsimp only at hSw); first | (go_simp; done) | (go_simp; with_reducible rfl))
  try simp only [Act.put, List.setIfInBounds_toArray, List.set_cons_zero, List.set_cons_succ]
  refine tk (oi := { dst := some 9, op := Op.load 116 (Operand.tmp 0), type := 116, pos := "file.go:86", after := #[], guard := none }) (v := ?_) 5 rfl ?_ ?_
  rotate_left
  · (intro w hSw; (try dsimp only at hSw); first | (go_simp; done) | (go_simp; with_reducible rfl))
  try simp only [Act.put, List.setIfInBounds_toArray, List.set_cons_zero, List.set_cons_succ]
  refine tk (oi := { dst := some 10, op := Op.load 3 (Operand.tmp 1), type := 3, pos := "file.go:86", after := #[], guard := none }) (v := ?_) 6 rfl ?_ ?_
  rotate_left
  · (intro w hSw; (try dsimp only at hSw); first | (go_simp; done) | (go_simp; with_reducible rfl))
  try simp only [Act.put, List.setIfInBounds_toArray, List.set_cons_zero, List.set_cons_succ]
  refine wpAnyH_ready (rs := [7]) (by kernel_rfl) (by simp) ?_
  refine AllReadyH.cons (o := { dst := some 11, op := Op.call { callee := Callee.value (Operand.func 91), args := #[Operand.tmp 9, Operand.tmp 10], argTypes := #[116, 3] }, type := 116, pos := "file.go:86", after := #[{ on := 5, ground := Ground.data }, { on := 6, ground := Ground.data }], guard := none }) rfl (fun K hK => ?_) AllReadyH.nil
  go_simp
  refine (HF.out _).mono ?_
  rintro e w2 ⟨rfl, hb2⟩
  have D1 := Lib.hid (((Bel.refl w).drew).trans hb2)
  have S2 := HSK.out [] _ _ (Keep.of_bel hb2 []) (by simp) (by simp) (by simp) (by simp) (by simp) hHeld
  clear hb2
  dsimp only
  refine hK.out _ _ S2 (fun hHeld2 => ?_)
  clear hK K
  try simp only [Act.put, List.setIfInBounds_toArray, List.set_cons_zero, List.set_cons_succ]
  refine wpAnyH_ready (rs := [8]) (by kernel_rfl) (by simp) ?_
  refine AllReadyH.cons (o := { dst := none, op := Op.mapUpdate 111 (Operand.tmp 7) (Operand.tmp 8) (Operand.tmp 11), type := 0, pos := "file.go:86", after := #[{ on := 3, ground := Ground.data }, { on := 4, ground := Ground.data }, { on := 7, ground := Ground.data }, { on := 7, ground := Ground.chain }, { on := 0, ground := Ground.phase }, { on := 1, ground := Ground.phase }, { on := 2, ground := Ground.phase }, { on := 3, ground := Ground.phase }, { on := 4, ground := Ground.phase }, { on := 5, ground := Ground.phase }, { on := 6, ground := Ground.phase }, { on := 7, ground := Ground.phase }], guard := none }) rfl (fun K hK => ?_) AllReadyH.nil
  refine step_store (mb := mb) (s := s) (val := .agg #[.slice p m cap, .int .i64 (min y.safe m : Nat)]) rfl (.tmp 7) (.tmp 8) (.tmp 11) rfl rfl rfl rfl (HV.out.bel D1.out).own (by omega) hs ?_
  intro w3 ho hk
  refine hK.out _ _ (HSK.out [mb] _ _ hk (by simpa using N1) (by simpa using N2) (by simpa using N3) (by simpa using N4) (by simpa using N5) S2) (fun hHeld3 => ?_)
  clear hK K
  try simp only [Act.put, List.setIfInBounds_toArray, List.set_cons_zero, List.set_cons_succ]
  refine wpAnyH_done (by kernel_rfl) ?_ _
  have HO := Lib.hid ho
  have HK := Lib.hid hk
  clear ho hk hHeld hHeld2 hHeld3 S2
  go_wp2_with (fail)
  go_end0
  have hym := getF_mem HY.out
  have hnm := getF_name HY.out
  have hv := (HV.out.bel D1.out).val y hym (by simp)
  rw [HP.out] at hv
  have hval := (own_first hv m hm).keep HK.out (fun k hk1 hk2 => by
    rw [List.mem_singleton] at hk2
    subst hk2
    exact (HV.out.bel D1.out).ne_row (own_first hv m hm) hk1)
  have hput := FilesV.put (y := { y with bytes := y.bytes.take m, safe := min y.safe m }) (v' := .slice p m cap) HS.out ((HV.out.bel D1.out).weak y.name) (x := w3) (n := M.L.length + 1) (by
      have := HO.out
      rw [← hnm] at this
      exact this) HK.out hval (fun z hz hne k hk => (HV.out.apart y hym z hz (fun e => hne e.symm) k (by rw [HP.out, slice_block p n m cap]; exact hk)))
  refine ⟨rfl, _, _, (HH.out.keep (Keep.of_bel D1.out []) (by simp)).keep HK.out (by simpa using N4), hput, (Keep.of_bel D1.out _).trans HK.out (fun x hx => Or.inl hx), fun z hz k hk => Or.inl ?_⟩
  rcases mem_ins hz with rfl | hz
  · simp only [if_true] at hk
    exact ⟨y, hym, by rw [HP.out, slice_block p n m cap]; exact hk⟩
  · by_cases he : z.name = y.name
    · simp only [he, if_true] at hk
      exact ⟨y, hym, by rw [HP.out, slice_block p n m cap]; exact hk⟩
    · simp only [he, if_false] at hk
      exact ⟨z, hz, hk⟩
set_option maxHeartbeats 4000000 in
set_option maxRecDepth 20000 in
theorem dropcl_any (n₀ : Nat) (w : World) (b mb : Nat) (M : RS) (t : Int) (D : DataW Value) (V : List UInt8 → Value) (Bf Bn : Nat) (s : ByteArray) (h : Hdr w b M (.map (some mb)) t) (hV : FilesV n₀ w mb D V M.L none) (hS : Srt M.L)
    (hs : s.size ≤ maxLen) (e2 : w.cell? ⟨Bf, 0, none⟩ = some (.pointer (some ⟨b, 0, none⟩))) (e3 : w.cell? ⟨Bn, 0, none⟩ = some (.string s)) :
    Calls Tryz.prog 123 #[.pointer (some ⟨Bf, 0, none⟩), .pointer (some ⟨Bn, 0, none⟩)] w fun e w' =>
      e = .returned (.tuple #[]) ∧ Chg n₀ w w' b M mb t V M.L (outS s.data.toList M.L) [mb] := by
  have e4 : w.cell? ⟨b, 1, none⟩ = some (.map (some mb)) := by simp [World.cell?, h.1]
  have N2 := cell_ne_map hV.own e2
  have N3 := cell_ne_map hV.own e3
  have N4 := h.ne hV.own
  have HV := Lib.hid hV
  have HH := Lib.hid h
  have HS := Lib.hid hS
  clear hV h hS
  go_enter Tryz.func123, Tryz.ntmps123
  go_wp2_with (fail)
  refine wp_region_held_drew (S := fun z => (z.cell? ⟨Bf, 0, none⟩ = some (.pointer (some ⟨b, 0, none⟩)) ∧ z.cell? ⟨Bn, 0, none⟩ = some (.string s) ∧ z.cell? ⟨b, 1, none⟩ = some (.map (some mb)))) (by kernel_rfl) ⟨e2, e3, e4⟩ (fun hHeld => ?_)
  refine tk (oi := { dst := some 2, op := Op.load 55 (Operand.tmp 0), type := 55, pos := "file.go:108", after := #[], guard := none }) (v := ?_) 0 rfl ?_ ?_
  rotate_left
  · (intro w hSw; (try dsimp only at hSw); first | (go_simp; done) | (go_simp; with_reducible rfl))
  try simp only [Act.put, List.setIfInBounds_toArray, List.set_cons_zero, List.set_cons_succ]
  refine tk (oi := { dst := some 3, op := Op.nilCheck (Operand.tmp 2), type := 0, pos := "file.go:108", after := #[{ on := 0, ground := Ground.data }], guard := none }) (v := ?_) 1 rfl ?_ ?_
  rotate_left
  · (intro w hSw; (try dsimp only at hSw); first | (go_simp; done) | (go_simp; with_reducible rfl))
  try simp only [Act.put, List.setIfInBounds_toArray, List.set_cons_zero, List.set_cons_succ]
  refine tk (oi := { dst := some 4, op := Op.fieldAddr 113 (Operand.tmp 3) 1, type := 0, pos := "file.go:108", after := #[{ on := 1, ground := Ground.data }], guard := none }) (v := ?_) 2 rfl ?_ ?_
  rotate_left
  · (intro w hSw; (try dsimp only at hSw); first | (go_simp; done) | (go_simp; with_reducible rfl))
  try simp only [Act.put, List.setIfInBounds_toArray, List.set_cons_zero, List.set_cons_succ]
  refine tk (oi := { dst := some 5, op := Op.load 111 (Operand.tmp 4), type := 111, pos := "file.go:108", after := #[{ on := 2, ground := Ground.data }], guard := none }) (v := ?_) 3 rfl ?_ ?_
  rotate_left
  · (intro w hSw; (try dsimp only at hSw); first | (go_simp; done) | (go_simp; with_reducible rfl))
  try simp only [Act.put, List.setIfInBounds_toArray, List.set_cons_zero, List.set_cons_succ]
  refine tk (oi := { dst := some 6, op := Op.load 9 (Operand.tmp 1), type := 9, pos := "file.go:108", after := #[], guard := none }) (v := ?_) 4 rfl ?_ ?_
  rotate_left
  · (intro w hSw; (try dsimp only at hSw); first | (go_simp; done) | (go_simp; with_reducible rfl))
  try simp only [Act.put, List.setIfInBounds_toArray, List.set_cons_zero, List.set_cons_succ]
  refine wpAnyH_ready (rs := [5]) (by kernel_rfl) (by simp) ?_
  refine AllReadyH.cons (o := { dst := none, op := Op.call { callee := Callee.builtin Builtin.delete, args := #[Operand.tmp 5, Operand.tmp 6], argTypes := #[111, 9] }, type := 0, pos := "file.go:108", after := #[{ on := 3, ground := Ground.data }, { on := 4, ground := Ground.data }], guard := none }) rfl (fun K hK => ?_) AllReadyH.nil
  refine step_del (mb := mb) (s := s) rfl (.tmp 5) (.tmp 6) rfl rfl rfl (HV.out.bel (Bel.refl w).drew).own hs ?_
  intro w3 ho hk
  refine hK.out _ _ ⟨hk.cell hHeld.1 (by simpa using N2), hk.cell hHeld.2.1 (by simpa using N3), hk.cell hHeld.2.2 (by simpa using N4)⟩ (fun hHeld3 => ?_)
  clear hK K
  try simp only [Act.put, List.setIfInBounds_toArray, List.set_cons_zero, List.set_cons_succ]
  refine wpAnyH_done (by kernel_rfl) ?_ _
  have HO := Lib.hid ho
  have HK := Lib.hid hk
  clear ho hk hHeld hHeld3
  go_wp2_with (fail)
  go_end0
  have hdel := FilesV.del HS.out (HV.out.bel (Bel.refl w).drew) HO.out HK.out
  exact ⟨rfl, _, _, (HH.out.keep (Keep.of_bel (Bel.refl w).drew []) (by simp)).keep HK.out (by simpa using N4), hdel, (Keep.of_bel (Bel.refl w).drew _).trans HK.out (fun x hx => Or.inl hx), fun z hz k hk => Or.inl ⟨z, mem_out hz, hk⟩⟩

end Go.Proofs.YtfbiinnenlgkfaaGreatDoor
/- The change of file that Add hands to turn. -/
namespace Go.Proofs.YtfbiinnenlgkfaaGreatDoor
open Go.RowKit Go.Deep Go.Maps

theorem step_look {ops : Array Oper} {o : Oper} {a : Act} {K : Act → World → Prop} {Q : Exit → Act → World → Prop} {E : Prop} {x : World} {c : Bool} (hgd : o.guard = none) (m y : Operand)
    (ho : o.op = Op.lookup 111 m y c) {mv kv r : Value} (hm : a.eval m = mv) (hy : a.eval y = kv) (hrun : (Instr.lookup 111 mv kv c).run Tryz.prog x = .ok r x)
    (h : K (a.put o.dst r) x) : if Region.wanted o (yielded ops a.tmps) = true then o.wp Tryz.prog a x K Q else E := by
  rw [if_pos (by simp [Region.wanted, hgd])]
  unfold Oper.wp
  simp [execOp, ho, hm, hy, hrun, Result.andThen]
  exact h
theorem Hdr.ne_row {w : World} {b : Nat} {M : RS} {mv : Value} {t : Int} (h : Hdr w b M mv t) {n₀ : Nat} {v : Value} {l : List UInt8} (ho : Own n₀ w v l) : b ∉ v.ownBlock.toList := by
  intro hk
  rw [Option.mem_toList] at hk
  rcases ho.2 with ⟨rfl, _⟩ | ⟨g, cap, cur, rfl, _, hgb, _⟩
  · simp [Value.ownBlock] at hk
  · obtain rfl : g = b := by simpa [Value.ownBlock] using hk
    rw [h.1] at hgb
    simp at hgb
def addF (nm s : List UInt8) (L : List FI) : FI := match getF nm L with
  | some y => { y with bytes := y.bytes ++ s }
  | none => ⟨nm, s, 0⟩
theorem addF_name (nm s : List UInt8) (L : List FI) : (addF nm s L).name = nm := by
  unfold addF
  cases hy : getF nm L with
  | none => rfl
  | some y => exact getF_name (x := y) hy
theorem map_eq_nil (mb : Nat) (w : World) : (binOp .eql 111 (.map (some mb)) (.map none)).run Tryz.prog w = .ok (.bool false) w := by kernel_rfl
theorem nil_eq_nil (w : World) : (binOp .eql 111 (.map none) (.map none)).run Tryz.prog w = .ok (.bool true) w := by kernel_rfl
theorem extended_nil (B : Nat) (w : World) (u : ByteArray) (hu : u.size ≤ 1000000) (hB : B ≤ w.heap.size) :
    Calls Tryz.prog 63 #[.agg #[.slice none 0 0, .int .i64 0], .string u] w fun e w' => ∃ v', e = .returned (.agg #[v', .int .i64 0]) ∧ Own B w' v' u.data.toList ∧ Keep [] w w' ∧ (∀ k, v'.ownBlock = some k → w.heap.size ≤ k) := by
  refine (extended_any B w (.slice none 0 0) [] 0 u (Own.nil _ _) (by simp; omega) hB).mono ?_
  rintro e w' ⟨v', rfl, h1, h2, h3⟩
  exact ⟨v', rfl, by simpa using h1, h2, fun k hk => (h3 k hk).resolve_left (by simp [Value.ownBlock])⟩
def Added (n₀ : Nat) (w x : World) (b : Nat) (M : RS) (t : Int) (L' : List FI) (F : List Nat) : Prop :=
  ∃ mb D' V', Hdr x b M (.map (some mb)) t ∧ FilesV n₀ x mb D' V' L' none ∧ Keep F w x ∧ (mb ∈ F ∨ w.heap.size ≤ mb) ∧ ∀ z ∈ L', ∀ k, (V' z.name).ownBlock = some k → k ∈ F ∨ w.heap.size ≤ k

set_option maxHeartbeats 4000000 in
set_option maxRecDepth 20000 in
theorem addcl_some (n₀ : Nat) (w : World) (b : Nat) (M : RS) (t : Int) (F : List Nat) (mb : Nat) (D : DataW Value) (V : List UInt8 → Value) (Bf Bn Bs : Nat) (s u : ByteArray) (h : Hdr w b M (.map (some mb)) t) (hV : FilesV n₀ w mb D V M.L none) (hmF : mb ∈ F) (hvF : ∀ z ∈ M.L, ∀ k, (V z.name).ownBlock = some k → k ∈ F) (hS : Srt M.L) (hL : M.L.length ≤ 1000) (hbF : b ∈ F) (hn0 : n₀ ≤ w.heap.size)
    (hs : s.size ≤ maxLen) (hu : u.size ≤ 1000000) (y : FI) (hy : getF s.data.toList M.L = some y) (hB : y.bytes.length ≤ 1000000000)
    (e2 : w.cell? ⟨Bf, 0, none⟩ = some (.pointer (some ⟨b, 0, none⟩))) (e3 : w.cell? ⟨Bn, 0, none⟩ = some (.string s)) (e5 : w.cell? ⟨Bs, 0, none⟩ = some (.string u)) (nf : Bf ∉ F ∧ Bn ∉ F ∧ Bs ∉ F) :
    Calls Tryz.prog 62 #[.pointer (some ⟨Bf, 0, none⟩), .pointer (some ⟨Bn, 0, none⟩), .pointer (some ⟨Bs, 0, none⟩)] w fun e w' =>
      e = .returned (.tuple #[]) ∧ Added n₀ w w' b M t (insS (addF s.data.toList u.data.toList M.L) M.L) F := by
  have hv0 := hV.val y (getF_mem hy) (by simp)
  obtain ⟨p, cap, hp, -⟩ := own_len hv0
  have hrow := h.ne_row hv0
  have hrF : ∀ k ∈ (V y.name).ownBlock.toList, k ∈ F := fun k hk => hvF y (getF_mem hy) k (by rwa [Option.mem_toList] at hk)
  rw [hp] at hv0 hrow hrF
  have e4 : w.cell? ⟨b, 1, none⟩ = some (.map (some mb)) := by simp [World.cell?, h.1]
  have hSK : ∀ G x z, Keep G x z → Bf ∉ G → Bn ∉ G → Bs ∉ G → b ∉ G → (x.cell? ⟨Bf, 0, none⟩ = some (.pointer (some ⟨b, 0, none⟩)) ∧ x.cell? ⟨Bn, 0, none⟩ = some (.string s) ∧ x.cell? ⟨Bs, 0, none⟩ = some (.string u) ∧ x.cell? ⟨b, 1, none⟩ = some (.map (some mb))) → (z.cell? ⟨Bf, 0, none⟩ = some (.pointer (some ⟨b, 0, none⟩)) ∧ z.cell? ⟨Bn, 0, none⟩ = some (.string s) ∧ z.cell? ⟨Bs, 0, none⟩ = some (.string u) ∧ z.cell? ⟨b, 1, none⟩ = some (.map (some mb))) :=
    fun G x z hk h1 h2 h3 h4 hc => ⟨hk.cell hc.1 h1, hk.cell hc.2.1 h2, hk.cell hc.2.2.1 h3, hk.cell hc.2.2.2 h4⟩
  have HSK := Lib.hid hSK
  have N4 := h.ne hV.own
  have HV := Lib.hid hV
  have HH := Lib.hid h
  have HS := Lib.hid hS
  have HY := Lib.hid hy
  have HP := Lib.hid hp
  have HV0 := Lib.hid hv0
  have HRF := Lib.hid hrF
  have HMF := Lib.hid hmF
  have HVF := Lib.hid hvF
  have HRW := Lib.hid hrow
  have HLK := Lib.hid (fun x (hb : Bel w x) => run_look_some (hV.bel hb) s hs hy false)
  have hsn : s.data.toList = y.name := (getF_name hy).symm
  rw [hsn, hp] at HLK
  obtain ⟨nf1, nf2, nf3⟩ := nf
  have Q1 := Lib.hid (fun hm => nf1 (hrF Bf hm))
  have Q2 := Lib.hid (fun hm => nf2 (hrF Bn hm))
  have Q3 := Lib.hid (fun hm => nf3 (hrF Bs hm))
  have P1 : Bf ≠ mb := fun e => nf1 (e ▸ hmF)
  have P2 : Bn ≠ mb := fun e => nf2 (e ▸ hmF)
  have P3 : Bs ≠ mb := fun e => nf3 (e ▸ hmF)
  have HSN := Lib.hid hsn
  clear hSK hV h hS hy hp hv0 hrF hmF hvF hrow hsn nf1 nf2 nf3
  have hqn := map_eq_nil mb
  go_enter Tryz.func62, Tryz.ntmps62
  go_wp2_with (fail)
  refine wp_region_held_drew (S := fun z => (z.cell? ⟨Bf, 0, none⟩ = some (.pointer (some ⟨b, 0, none⟩)) ∧ z.cell? ⟨Bn, 0, none⟩ = some (.string s) ∧ z.cell? ⟨Bs, 0, none⟩ = some (.string u) ∧ z.cell? ⟨b, 1, none⟩ = some (.map (some mb)))) (by kernel_rfl) ⟨e2, e3, e5, e4⟩ (fun hHeld => ?_)
  refine tk (oi := { dst := some 12, op := Op.load 55 (Operand.tmp 0), type := 55, pos := "file.go:38", after := #[], guard := none }) (v := ?_) 0 rfl ?_ ?_
  rotate_left
  · (intro w hSw; (try dsimp only at hSw); first | (go_simp; done) | (go_simp; with_reducible rfl))
  try simp only [Act.put, List.setIfInBounds_toArray, List.set_cons_zero, List.set_cons_succ]
  refine tk (oi := { dst := some 13, op := Op.nilCheck (Operand.tmp 12), type := 0, pos := "file.go:38", after := #[{ on := 0, ground := Ground.data }], guard := none }) (v := ?_) 1 rfl ?_ ?_
  rotate_left
  · (intro w hSw; (try dsimp only at hSw); first | (go_simp; done) | (go_simp; with_reducible rfl))
  try simp only [Act.put, List.setIfInBounds_toArray, List.set_cons_zero, List.set_cons_succ]
  refine tk (oi := { dst := some 14, op := Op.fieldAddr 113 (Operand.tmp 13) 1, type := 0, pos := "file.go:38", after := #[{ on := 1, ground := Ground.data }], guard := none }) (v := ?_) 2 rfl ?_ ?_
  rotate_left
  · (intro w hSw; (try dsimp only at hSw); first | (go_simp; done) | (go_simp; with_reducible rfl))
  try simp only [Act.put, List.setIfInBounds_toArray, List.set_cons_zero, List.set_cons_succ]
  refine tk (oi := { dst := some 15, op := Op.load 111 (Operand.tmp 14), type := 111, pos := "file.go:38", after := #[{ on := 2, ground := Ground.data }], guard := none }) (v := ?_) 3 rfl ?_ ?_
  rotate_left
  · (intro w hSw; (try dsimp only at hSw); first | (go_simp; done) | (go_simp; with_reducible rfl))
  try simp only [Act.put, List.setIfInBounds_toArray, List.set_cons_zero, List.set_cons_succ]
  refine tk (oi := { dst := some 16, op := Op.load 9 (Operand.tmp 1), type := 9, pos := "file.go:38", after := #[], guard := none }) (v := ?_) 4 rfl ?_ ?_
  rotate_left
  · (intro w hSw; (try dsimp only at hSw); first | (go_simp; done) | (go_simp; with_reducible rfl))
  try simp only [Act.put, List.setIfInBounds_toArray, List.set_cons_zero, List.set_cons_succ]
  refine tk (oi := { dst := some 17, op := Op.load 55 (Operand.tmp 0), type := 55, pos := "file.go:38", after := #[], guard := none }) (v := ?_) 5 rfl ?_ ?_
  rotate_left
  · (intro w hSw; (try dsimp only at hSw); first | (go_simp; done) | (go_simp; with_reducible rfl))
  try simp only [Act.put, List.setIfInBounds_toArray, List.set_cons_zero, List.set_cons_succ]
  refine tk (oi := { dst := some 18, op := Op.nilCheck (Operand.tmp 17), type := 0, pos := "file.go:38", after := #[{ on := 5, ground := Ground.data }], guard := none }) (v := ?_) 6 rfl ?_ ?_
  rotate_left
  · (intro w hSw; (try dsimp only at hSw); first | (go_simp; done) | (go_simp; with_reducible rfl))
  try simp only [Act.put, List.setIfInBounds_toArray, List.set_cons_zero, List.set_cons_succ]
  refine tk (oi := { dst := some 19, op := Op.fieldAddr 113 (Operand.tmp 18) 1, type := 0, pos := "file.go:38", after := #[{ on := 6, ground := Ground.data }], guard := none }) (v := ?_) 7 rfl ?_ ?_
  rotate_left
  · (intro w hSw; (try dsimp only at hSw); first | (go_simp; done) | (go_simp; with_reducible rfl))
  try simp only [Act.put, List.setIfInBounds_toArray, List.set_cons_zero, List.set_cons_succ]
  refine tk (oi := { dst := some 20, op := Op.load 111 (Operand.tmp 19), type := 111, pos := "file.go:38", after := #[{ on := 7, ground := Ground.data }], guard := none }) (v := ?_) 8 rfl ?_ ?_
  rotate_left
  · (intro w hSw; (try dsimp only at hSw); first | (go_simp; done) | (go_simp; with_reducible rfl))
  try simp only [Act.put, List.setIfInBounds_toArray, List.set_cons_zero, List.set_cons_succ]
  refine tk (oi := { dst := some 21, op := Op.load 9 (Operand.tmp 1), type := 9, pos := "file.go:38", after := #[], guard := none }) (v := ?_) 9 rfl ?_ ?_
  rotate_left
  · (intro w hSw; (try dsimp only at hSw); first | (go_simp; done) | (go_simp; with_reducible rfl))
  try simp only [Act.put, List.setIfInBounds_toArray, List.set_cons_zero, List.set_cons_succ]
  refine tk (oi := { dst := some 23, op := Op.load 9 (Operand.tmp 2), type := 9, pos := "file.go:38", after := #[], guard := none }) (v := ?_) 11 rfl ?_ ?_
  rotate_left
  · (intro w hSw; (try dsimp only at hSw); first | (go_simp; done) | (go_simp; with_reducible rfl))
  try simp only [Act.put, List.setIfInBounds_toArray, List.set_cons_zero, List.set_cons_succ]
  refine wpAnyH_ready (rs := [10]) (by kernel_rfl) (by simp) ?_
  refine AllReadyH.cons (o := { dst := some 22, op := Op.lookup 111 (Operand.tmp 20) (Operand.tmp 21) false, type := 116, pos := "file.go:38", after := #[{ on := 8, ground := Ground.data }, { on := 9, ground := Ground.data }], guard := none }) rfl (fun K hK => ?_) AllReadyH.nil
  refine step_look (mv := .map (some mb)) (kv := .string s) (r := .agg #[.slice p y.bytes.length cap, .int .i64 y.safe]) rfl (.tmp 20) (.tmp 21) rfl rfl rfl (HLK.out _ (Bel.refl w).drew) ?_
  refine hK.out _ _ hHeld (fun hHeld1 => ?_)
  clear hK K
  try simp only [Act.put, List.setIfInBounds_toArray, List.set_cons_zero, List.set_cons_succ]
  refine wpAnyH_ready (rs := [12]) (by kernel_rfl) (by simp) ?_
  refine AllReadyH.cons (o := { dst := some 24, op := Op.call { callee := Callee.value (Operand.func 63), args := #[Operand.tmp 22, Operand.tmp 23], argTypes := #[116, 9] }, type := 116, pos := "file.go:38", after := #[{ on := 10, ground := Ground.data }, { on := 11, ground := Ground.data }], guard := none }) rfl (fun K hK => ?_) AllReadyH.nil
  go_simp
  refine (extended_any n₀ _ _ _ y.safe u (HV0.out.bel (Bel.refl w).drew) (by omega) hn0).mono ?_
  rintro e w2 ⟨v', rfl, hv1, hk1, hl1⟩
  have D1 := Lib.hid ((Keep.of_bel (Bel.refl w).drew _).trans hk1 (fun x hx => Or.inl hx))
  have S2 := HSK.out _ _ _ hk1 Q1.out Q2.out Q3.out HRW.out hHeld
  have HV1 := Lib.hid hv1
  have HL1 := Lib.hid hl1
  have HV2 := Lib.hid (show FilesV n₀ w2 mb D V M.L (some y.name) from HV.out.but (getF_mem HY.out) (by rw [HP.out]; exact D1.out))
  clear hk1 hv1 hl1
  dsimp only
  refine hK.out _ _ S2 (fun hHeld2 => ?_)
  clear hK K
  try simp only [Act.put, List.setIfInBounds_toArray, List.set_cons_zero, List.set_cons_succ]
  refine wpAnyH_ready (rs := [13]) (by kernel_rfl) (by simp) ?_
  refine AllReadyH.cons (o := { dst := none, op := Op.mapUpdate 111 (Operand.tmp 15) (Operand.tmp 16) (Operand.tmp 24), type := 0, pos := "file.go:38", after := #[{ on := 3, ground := Ground.data }, { on := 4, ground := Ground.data }, { on := 12, ground := Ground.data }, { on := 12, ground := Ground.chain }, { on := 0, ground := Ground.phase }, { on := 1, ground := Ground.phase }, { on := 2, ground := Ground.phase }, { on := 3, ground := Ground.phase }, { on := 4, ground := Ground.phase }, { on := 5, ground := Ground.phase }, { on := 6, ground := Ground.phase }, { on := 7, ground := Ground.phase }, { on := 8, ground := Ground.phase }, { on := 9, ground := Ground.phase }, { on := 10, ground := Ground.phase }, { on := 11, ground := Ground.phase }, { on := 12, ground := Ground.phase }], guard := none }) rfl (fun K hK => ?_) AllReadyH.nil
  refine step_store (mb := mb) (s := s) (val := .agg #[v', .int .i64 y.safe]) rfl (.tmp 15) (.tmp 16) (.tmp 24) rfl rfl rfl rfl HV2.out.own (by omega) hs ?_
  intro w3 ho hk
  refine hK.out _ _ (HSK.out [mb] _ _ hk (by simpa using P1) (by simpa using P2) (by simpa using P3) (by simpa using N4) S2) (fun hHeld3 => ?_)
  clear hK K
  try simp only [Act.put, List.setIfInBounds_toArray, List.set_cons_zero, List.set_cons_succ]
  refine wpAnyH_done (by kernel_rfl) ?_ _
  have HO := Lib.hid ho
  have HK := Lib.hid hk
  clear ho hk hHeld hHeld1 hHeld2 hHeld3 S2
  go_wp2_with (fail)
  go_end0
  have hym := getF_mem HY.out
  have hval := HV1.out.keep HK.out (fun k hk1 hk2 => by
    rw [List.mem_singleton] at hk2
    subst hk2
    exact HV2.out.ne_row HV1.out hk1)
  have hadd : addF s.data.toList u.data.toList M.L = { y with bytes := y.bytes ++ u.data.toList } := by unfold addF; rw [HY.out]
  have hput := FilesV.put (y := { y with bytes := y.bytes ++ u.data.toList }) (v' := v') HS.out HV2.out (x := w3) (n := M.L.length + 1) (by
      have := HO.out
      rw [HSN.out] at this
      exact this) HK.out hval (fun z hz hne k hk => by
      rcases HL1.out k hk with h1 | h1
      · exact HV.out.apart y hym z hz (fun e => hne e.symm) k (by rw [HP.out]; exact h1)
      · intro h2
        have := ((HV.out.val z hz (by simp)).lt k h2).2
        simp at h1
        omega)
  rw [hadd]
  have KK := (D1.out.mono HRF.out).trans (HK.out.mono (G := F) (fun x hx => by rw [List.mem_singleton] at hx; rw [hx]; exact HMF.out)) (fun x hx => Or.inl hx)
  refine ⟨rfl, mb, _, _, (HH.out.keep D1.out HRW.out).keep HK.out (by simpa using N4), hput, KK, Or.inl HMF.out, fun z hz k hk => ?_⟩
  by_cases he : z.name = y.name
  · simp only [he, if_true] at hk
    rcases HL1.out k hk with h1 | h1
    · exact Or.inl (HRF.out k (by rw [Option.mem_toList]; exact h1))
    · exact Or.inr (by simpa using h1)
  · simp only [he, if_false] at hk
    rcases mem_ins hz with rfl | hz
    · exact absurd rfl he
    · exact Or.inl (HVF.out z hz k hk)

set_option maxHeartbeats 4000000 in
set_option maxRecDepth 20000 in
theorem addcl_none (n₀ : Nat) (w : World) (b : Nat) (M : RS) (t : Int) (F : List Nat) (mb : Nat) (D : DataW Value) (V : List UInt8 → Value) (Bf Bn Bs : Nat) (s u : ByteArray) (h : Hdr w b M (.map (some mb)) t) (hV : FilesV n₀ w mb D V M.L none) (hmF : mb ∈ F) (hvF : ∀ z ∈ M.L, ∀ k, (V z.name).ownBlock = some k → k ∈ F) (hS : Srt M.L) (hL : M.L.length ≤ 1000) (hbF : b ∈ F) (hn0 : n₀ ≤ w.heap.size)
    (hs : s.size ≤ maxLen) (hu : u.size ≤ 1000000) (hy : getF s.data.toList M.L = none)
    (e2 : w.cell? ⟨Bf, 0, none⟩ = some (.pointer (some ⟨b, 0, none⟩))) (e3 : w.cell? ⟨Bn, 0, none⟩ = some (.string s)) (e5 : w.cell? ⟨Bs, 0, none⟩ = some (.string u)) (nf : Bf ∉ F ∧ Bn ∉ F ∧ Bs ∉ F) :
    Calls Tryz.prog 62 #[.pointer (some ⟨Bf, 0, none⟩), .pointer (some ⟨Bn, 0, none⟩), .pointer (some ⟨Bs, 0, none⟩)] w fun e w' =>
      e = .returned (.tuple #[]) ∧ Added n₀ w w' b M t (insS (addF s.data.toList u.data.toList M.L) M.L) F := by
  obtain ⟨X0, hX0⟩ : ∃ X0, X0 = w := ⟨_, rfl⟩
  have e4 : w.cell? ⟨b, 1, none⟩ = some (.map (some mb)) := by simp [World.cell?, h.1]
  have hSK : ∀ G x z, Keep G x z → Bf ∉ G → Bn ∉ G → Bs ∉ G → b ∉ G → (x.cell? ⟨Bf, 0, none⟩ = some (.pointer (some ⟨b, 0, none⟩)) ∧ x.cell? ⟨Bn, 0, none⟩ = some (.string s) ∧ x.cell? ⟨Bs, 0, none⟩ = some (.string u) ∧ x.cell? ⟨b, 1, none⟩ = some (.map (some mb))) → (z.cell? ⟨Bf, 0, none⟩ = some (.pointer (some ⟨b, 0, none⟩)) ∧ z.cell? ⟨Bn, 0, none⟩ = some (.string s) ∧ z.cell? ⟨Bs, 0, none⟩ = some (.string u) ∧ z.cell? ⟨b, 1, none⟩ = some (.map (some mb))) :=
    fun G x z hk h1 h2 h3 h4 hc => ⟨hk.cell hc.1 h1, hk.cell hc.2.1 h2, hk.cell hc.2.2.1 h3, hk.cell hc.2.2.2 h4⟩
  have HSK := Lib.hid hSK
  have N4 := h.ne hV.own
  have HV := Lib.hid hV
  have HH := Lib.hid h
  have HS := Lib.hid hS
  have HY := Lib.hid hy
  have HMB := Lib.hid (show mb ∈ F ∨ w.heap.size ≤ mb from Or.inl hmF)
  have HVF := Lib.hid (show ∀ z ∈ M.L, ∀ k, (V z.name).ownBlock = some k → k ∈ F ∨ w.heap.size ≤ k from fun z hz k hk => Or.inl (hvF z hz k hk))
  have HLK := Lib.hid (fun x (hb : Bel w x) => run_look_none (F := F) (Or.inr ⟨mb, D, V, rfl, hV.bel hb, hmF, hvF⟩) s hs hy false)
  have HKW := Lib.hid (Keep.refl F w)
  have HN0 := Lib.hid hn0
  obtain ⟨nf1, nf2, nf3⟩ := nf
  have P1 : Bf ≠ mb := fun e => nf1 (e ▸ hmF)
  have P2 : Bn ≠ mb := fun e => nf2 (e ▸ hmF)
  have P3 : Bs ≠ mb := fun e => nf3 (e ▸ hmF)
  have q2 := e2
  have q3 := e3
  have q5 := e5
  have q4 := e4
  unfold conZ at HLK
  subst X0
  clear hSK hV h hS hy hmF hvF nf1 nf2 nf3 e2 e3 e5 e4 hn0
  have hqn := map_eq_nil mb
  go_enter Tryz.func62, Tryz.ntmps62
  go_wp2_with (fail)
  refine wp_region_held_drew (S := fun z => (z.cell? ⟨Bf, 0, none⟩ = some (.pointer (some ⟨b, 0, none⟩)) ∧ z.cell? ⟨Bn, 0, none⟩ = some (.string s) ∧ z.cell? ⟨Bs, 0, none⟩ = some (.string u) ∧ z.cell? ⟨b, 1, none⟩ = some (.map (some mb)))) (by kernel_rfl) ⟨q2, q3, q5, q4⟩ (fun hHeld => ?_)
  refine tk (oi := { dst := some 12, op := Op.load 55 (Operand.tmp 0), type := 55, pos := "file.go:38", after := #[], guard := none }) (v := ?_) 0 rfl ?_ ?_
  rotate_left
  · (intro w hSw; (try dsimp only at hSw); first | (go_simp; done) | (go_simp; with_reducible rfl))
  try simp only [Act.put, List.setIfInBounds_toArray, List.set_cons_zero, List.set_cons_succ]
  refine tk (oi := { dst := some 13, op := Op.nilCheck (Operand.tmp 12), type := 0, pos := "file.go:38", after := #[{ on := 0, ground := Ground.data }], guard := none }) (v := ?_) 1 rfl ?_ ?_
  rotate_left
  · (intro w hSw; (try dsimp only at hSw); first | (go_simp; done) | (go_simp; with_reducible rfl))
  try simp only [Act.put, List.setIfInBounds_toArray, List.set_cons_zero, List.set_cons_succ]
  refine tk (oi := { dst := some 14, op := Op.fieldAddr 113 (Operand.tmp 13) 1, type := 0, pos := "file.go:38", after := #[{ on := 1, ground := Ground.data }], guard := none }) (v := ?_) 2 rfl ?_ ?_
  rotate_left
  · (intro w hSw; (try dsimp only at hSw); first | (go_simp; done) | (go_simp; with_reducible rfl))
  try simp only [Act.put, List.setIfInBounds_toArray, List.set_cons_zero, List.set_cons_succ]
  refine tk (oi := { dst := some 15, op := Op.load 111 (Operand.tmp 14), type := 111, pos := "file.go:38", after := #[{ on := 2, ground := Ground.data }], guard := none }) (v := ?_) 3 rfl ?_ ?_
  rotate_left
  · (intro w hSw; (try dsimp only at hSw); first | (go_simp; done) | (go_simp; with_reducible rfl))
  try simp only [Act.put, List.setIfInBounds_toArray, List.set_cons_zero, List.set_cons_succ]
  refine tk (oi := { dst := some 16, op := Op.load 9 (Operand.tmp 1), type := 9, pos := "file.go:38", after := #[], guard := none }) (v := ?_) 4 rfl ?_ ?_
  rotate_left
  · (intro w hSw; (try dsimp only at hSw); first | (go_simp; done) | (go_simp; with_reducible rfl))
  try simp only [Act.put, List.setIfInBounds_toArray, List.set_cons_zero, List.set_cons_succ]
  refine tk (oi := { dst := some 17, op := Op.load 55 (Operand.tmp 0), type := 55, pos := "file.go:38", after := #[], guard := none }) (v := ?_) 5 rfl ?_ ?_
  rotate_left
  · (intro w hSw; (try dsimp only at hSw); first | (go_simp; done) | (go_simp; with_reducible rfl))
  try simp only [Act.put, List.setIfInBounds_toArray, List.set_cons_zero, List.set_cons_succ]
  refine tk (oi := { dst := some 18, op := Op.nilCheck (Operand.tmp 17), type := 0, pos := "file.go:38", after := #[{ on := 5, ground := Ground.data }], guard := none }) (v := ?_) 6 rfl ?_ ?_
  rotate_left
  · (intro w hSw; (try dsimp only at hSw); first | (go_simp; done) | (go_simp; with_reducible rfl))
  try simp only [Act.put, List.setIfInBounds_toArray, List.set_cons_zero, List.set_cons_succ]
  refine tk (oi := { dst := some 19, op := Op.fieldAddr 113 (Operand.tmp 18) 1, type := 0, pos := "file.go:38", after := #[{ on := 6, ground := Ground.data }], guard := none }) (v := ?_) 7 rfl ?_ ?_
  rotate_left
  · (intro w hSw; (try dsimp only at hSw); first | (go_simp; done) | (go_simp; with_reducible rfl))
  try simp only [Act.put, List.setIfInBounds_toArray, List.set_cons_zero, List.set_cons_succ]
  refine tk (oi := { dst := some 20, op := Op.load 111 (Operand.tmp 19), type := 111, pos := "file.go:38", after := #[{ on := 7, ground := Ground.data }], guard := none }) (v := ?_) 8 rfl ?_ ?_
  rotate_left
  · (intro w hSw; (try dsimp only at hSw); first | (go_simp; done) | (go_simp; with_reducible rfl))
  try simp only [Act.put, List.setIfInBounds_toArray, List.set_cons_zero, List.set_cons_succ]
  refine tk (oi := { dst := some 21, op := Op.load 9 (Operand.tmp 1), type := 9, pos := "file.go:38", after := #[], guard := none }) (v := ?_) 9 rfl ?_ ?_
  rotate_left
  · (intro w hSw; (try dsimp only at hSw); first | (go_simp; done) | (go_simp; with_reducible rfl))
  try simp only [Act.put, List.setIfInBounds_toArray, List.set_cons_zero, List.set_cons_succ]
  refine tk (oi := { dst := some 23, op := Op.load 9 (Operand.tmp 2), type := 9, pos := "file.go:38", after := #[], guard := none }) (v := ?_) 11 rfl ?_ ?_
  rotate_left
  · (intro w hSw; (try dsimp only at hSw); first | (go_simp; done) | (go_simp; with_reducible rfl))
  try simp only [Act.put, List.setIfInBounds_toArray, List.set_cons_zero, List.set_cons_succ]
  refine wpAnyH_ready (rs := [10]) (by kernel_rfl) (by simp) ?_
  refine AllReadyH.cons (o := { dst := some 22, op := Op.lookup 111 (Operand.tmp 20) (Operand.tmp 21) false, type := 116, pos := "file.go:38", after := #[{ on := 8, ground := Ground.data }, { on := 9, ground := Ground.data }], guard := none }) rfl (fun K hK => ?_) AllReadyH.nil
  refine step_look (mv := .map (some mb)) (kv := .string s) (r := .agg #[.slice none 0 0, .int .i64 0]) rfl (.tmp 20) (.tmp 21) rfl rfl rfl (HLK.out _ (Bel.refl _).drew) ?_
  refine hK.out _ _ hHeld (fun hHeld1 => ?_)
  clear hK K
  try simp only [Act.put, List.setIfInBounds_toArray, List.set_cons_zero, List.set_cons_succ]
  refine wpAnyH_ready (rs := [12]) (by kernel_rfl) (by simp) ?_
  refine AllReadyH.cons (o := { dst := some 24, op := Op.call { callee := Callee.value (Operand.func 63), args := #[Operand.tmp 22, Operand.tmp 23], argTypes := #[116, 9] }, type := 116, pos := "file.go:38", after := #[{ on := 10, ground := Ground.data }, { on := 11, ground := Ground.data }], guard := none }) rfl (fun K hK => ?_) AllReadyH.nil
  go_simp
  refine (extended_nil n₀ w.drew u hu HN0.out).mono ?_
  rintro e w2 ⟨v', rfl, hv1, hk1, hl1⟩
  have D1 := Lib.hid ((Keep.of_bel (Bel.refl w).drew []).trans hk1 (fun x hx => Or.inl hx))
  have S2 := HSK.out [] _ _ hk1 (by simp) (by simp) (by simp) (by simp) hHeld
  have HV1 := Lib.hid hv1
  have HL1 := Lib.hid hl1
  have HV2 := Lib.hid (show FilesV n₀ w2 mb D V M.L none from HV.out.keep D1.out (by simp) (fun _ _ _ _ _ => by simp))
  clear hk1 hv1 hl1
  dsimp only
  refine hK.out _ _ S2 (fun hHeld2 => ?_)
  clear hK K
  try simp only [Act.put, List.setIfInBounds_toArray, List.set_cons_zero, List.set_cons_succ]
  refine wpAnyH_ready (rs := [13]) (by kernel_rfl) (by simp) ?_
  refine AllReadyH.cons (o := { dst := none, op := Op.mapUpdate 111 (Operand.tmp 15) (Operand.tmp 16) (Operand.tmp 24), type := 0, pos := "file.go:38", after := #[{ on := 3, ground := Ground.data }, { on := 4, ground := Ground.data }, { on := 12, ground := Ground.data }, { on := 12, ground := Ground.chain }, { on := 0, ground := Ground.phase }, { on := 1, ground := Ground.phase }, { on := 2, ground := Ground.phase }, { on := 3, ground := Ground.phase }, { on := 4, ground := Ground.phase }, { on := 5, ground := Ground.phase }, { on := 6, ground := Ground.phase }, { on := 7, ground := Ground.phase }, { on := 8, ground := Ground.phase }, { on := 9, ground := Ground.phase }, { on := 10, ground := Ground.phase }, { on := 11, ground := Ground.phase }, { on := 12, ground := Ground.phase }], guard := none }) rfl (fun K hK => ?_) AllReadyH.nil
  refine step_store (mb := mb) (s := s) (val := .agg #[v', .int .i64 0]) rfl (.tmp 15) (.tmp 16) (.tmp 24) rfl rfl rfl rfl HV2.out.own (by omega) hs ?_
  intro w3 ho hk
  refine hK.out _ _ (HSK.out [mb] _ _ hk (by simpa using P1) (by simpa using P2) (by simpa using P3) (by simpa using N4) S2) (fun hHeld3 => ?_)
  clear hK K
  try simp only [Act.put, List.setIfInBounds_toArray, List.set_cons_zero, List.set_cons_succ]
  refine wpAnyH_done (by kernel_rfl) ?_ _
  have HO := Lib.hid ho
  have HK := Lib.hid hk
  clear ho hk hHeld hHeld1 hHeld2 hHeld3 S2
  go_wp2_with (fail)
  go_end0
  have hval := HV1.out.keep HK.out (fun k hk1 hk2 => by
    rw [List.mem_singleton] at hk2
    subst hk2
    exact HV2.out.ne_row HV1.out hk1)
  have hadd : addF s.data.toList u.data.toList M.L = ⟨s.data.toList, u.data.toList, 0⟩ := by unfold addF; rw [HY.out]
  have hput := FilesV.put (y := ⟨s.data.toList, u.data.toList, 0⟩) (v' := v') HS.out (HV2.out.weak s.data.toList) (x := w3) (n := M.L.length + 1) (by
      have := HO.out
      exact this) HK.out hval (fun z hz hne k hk => by
      have h1 := HL1.out k hk
      intro h2
      have := ((HV.out.val z hz (by simp)).lt k h2).2
      simp at h1
      omega)
  rw [hadd]
  have KK := ((HKW.out.trans (D1.out.mono (G := F) (fun x hx => by cases hx)) (fun x hx => Or.inl hx))).trans (HK.out.mono (G := mb :: F) (fun x hx => by rw [List.mem_singleton] at hx; rw [hx]; simp)) (fun x hx => by
    rcases List.mem_cons.1 hx with rfl | hx
    · exact HMB.out
    · exact Or.inl hx)
  refine ⟨rfl, mb, _, _, (HH.out.keep D1.out (by simp)).keep HK.out (by simpa using N4), hput, KK, HMB.out, fun z hz k hk => ?_⟩
  by_cases he : z.name = s.data.toList
  · simp only [he, if_true] at hk
    exact Or.inr (Nat.le_trans HKW.out.size (by simpa using HL1.out k hk))
  · simp only [he, if_false] at hk
    rcases mem_ins hz with rfl | hz
    · exact absurd rfl he
    · exact HVF.out z hz k hk

set_option maxHeartbeats 4000000 in
set_option maxRecDepth 20000 in
theorem addcl_nil (n₀ : Nat) (w : World) (b : Nat) (M : RS) (t : Int) (F : List Nat)  (Bf Bn Bs : Nat) (s u : ByteArray) (h : Hdr w b M (.map none) t) (hL0 : M.L = []) (hS : Srt M.L) (hL : M.L.length ≤ 1000) (hbF : b ∈ F) (hn0 : n₀ ≤ w.heap.size)
    (hs : s.size ≤ maxLen) (hu : u.size ≤ 1000000)
    (e2 : w.cell? ⟨Bf, 0, none⟩ = some (.pointer (some ⟨b, 0, none⟩))) (e3 : w.cell? ⟨Bn, 0, none⟩ = some (.string s)) (e5 : w.cell? ⟨Bs, 0, none⟩ = some (.string u)) (nf : Bf ∉ F ∧ Bn ∉ F ∧ Bs ∉ F) :
    Calls Tryz.prog 62 #[.pointer (some ⟨Bf, 0, none⟩), .pointer (some ⟨Bn, 0, none⟩), .pointer (some ⟨Bs, 0, none⟩)] w fun e w' =>
      e = .returned (.tuple #[]) ∧ Added n₀ w w' b M t (insS (addF s.data.toList u.data.toList M.L) M.L) F := by
  have e4 : w.cell? ⟨b, 1, none⟩ = some (.map none) := by simp [World.cell?, h.1]
  have f4 : w.frozen? ⟨b, 1, none⟩ = false := by simp [World.frozen?, h.1]
  obtain ⟨mb, hmb⟩ : ∃ mb, mb = w.heap.size := ⟨_, rfl⟩
  have hSK : ∀ G x z, Keep G x z → Bf ∉ G → Bn ∉ G → Bs ∉ G → b ∉ G → (x.cell? ⟨Bf, 0, none⟩ = some (.pointer (some ⟨b, 0, none⟩)) ∧ x.cell? ⟨Bn, 0, none⟩ = some (.string s) ∧ x.cell? ⟨Bs, 0, none⟩ = some (.string u) ∧ x.cell? ⟨b, 1, none⟩ = some (.map (some mb))) → (z.cell? ⟨Bf, 0, none⟩ = some (.pointer (some ⟨b, 0, none⟩)) ∧ z.cell? ⟨Bn, 0, none⟩ = some (.string s) ∧ z.cell? ⟨Bs, 0, none⟩ = some (.string u) ∧ z.cell? ⟨b, 1, none⟩ = some (.map (some mb))) :=
    fun G x z hk h1 h2 h3 h4 hc => ⟨hk.cell hc.1 h1, hk.cell hc.2.1 h2, hk.cell hc.2.2.1 h3, hk.cell hc.2.2.2 h4⟩
  have HSK := Lib.hid hSK
  obtain ⟨X0, hX0⟩ : ∃ X0, X0 = (w.setCell ⟨b, 1, none⟩ (.map (some w.heap.size))).alloc (.map #[] 0) := ⟨_, rfl⟩
  have hbl := block_lt_of_cell e4
  have P1 : Bf ≠ mb := by have := block_lt_of_cell e2; simp at this; omega
  have P2 : Bn ≠ mb := by have := block_lt_of_cell e3; simp at this; omega
  have P3 : Bs ≠ mb := by have := block_lt_of_cell e5; simp at this; omega
  have N4 : b ≠ mb := by simp at hbl; omega
  have HKW := Lib.hid (show Keep F w X0 by rw [hX0]; exact ((Keep.refl F w).setCell (p := ⟨b, 1, none⟩) (Or.inl hbF) _).alloc _)
  have HV := Lib.hid (show FilesV n₀ X0 mb (.map []) (fun _ => .slice none 0 0) M.L none by
    rw [hX0, hL0, hmb]
    have hz : (w.setCell ⟨b, 1, none⟩ (.map (some w.heap.size))).heap.size = w.heap.size := by simp [World.setCell]
    have := FilesV.nil (n₀ := n₀) (w.setCell ⟨b, 1, none⟩ (.map (some w.heap.size))) (fun _ => .slice none 0 0) (by rw [hz]; exact hn0)
    rwa [hz] at this)
  have HH := Lib.hid (show Hdr X0 b M (.map (some mb)) t by
    rw [hX0, hmb]
    exact ⟨by rw [Below.heap_alloc _ _ b (by simpa [World.setCell] using hbl), blk_set h.1 1 _]; rfl, h.2⟩)
  have HS := Lib.hid hS
  have HY := Lib.hid (show getF s.data.toList M.L = none by rw [hL0]; rfl)
  have HMB := Lib.hid (show mb ∈ F ∨ w.heap.size ≤ mb from Or.inr (by omega))
  have HVF := Lib.hid (show ∀ z ∈ M.L, ∀ k, ((fun _ => .slice none 0 0 : List UInt8 → Value) z.name).ownBlock = some k → k ∈ F ∨ w.heap.size ≤ k from fun z hz k hk => by rw [hL0] at hz; cases hz)
  have HLK := Lib.hid (fun x (hb : Bel X0 x) => run_look_none (F := mb :: F) (Or.inr ⟨mb, _, _, rfl, HV.out.bel hb, by simp, fun y hy => by rw [hL0] at hy; cases hy⟩) s hs HY.out false)
  have HN0 := Lib.hid (show n₀ ≤ X0.heap.size from Nat.le_trans hn0 HKW.out.size)
  obtain ⟨nf1, nf2, nf3⟩ := nf
  have q2 := HKW.out.cell e2 nf1
  have q3 := HKW.out.cell e3 nf2
  have q5 := HKW.out.cell e5 nf3
  have q4 : X0.cell? ⟨b, 1, none⟩ = some (.map (some mb)) := by simp [World.cell?, HH.out.1]
  unfold conZ at HLK
  have hHX := Lib.hid hX0
  have hMB := Lib.hid hmb
  clear hSK h hS hX0 hmb hL0 nf1 nf2 nf3 hn0
  have hqn := nil_eq_nil
  have hmm := @run_makeMap Tryz.prog
  go_enter Tryz.func62, Tryz.ntmps62
  go_wp2_with (fail)
  rw [← hHX.out]
  try rw [← hMB.out]
  refine wp_region_held_drew (S := fun z => (z.cell? ⟨Bf, 0, none⟩ = some (.pointer (some ⟨b, 0, none⟩)) ∧ z.cell? ⟨Bn, 0, none⟩ = some (.string s) ∧ z.cell? ⟨Bs, 0, none⟩ = some (.string u) ∧ z.cell? ⟨b, 1, none⟩ = some (.map (some mb)))) (by kernel_rfl) ⟨q2, q3, q5, q4⟩ (fun hHeld => ?_)
  refine tk (oi := { dst := some 12, op := Op.load 55 (Operand.tmp 0), type := 55, pos := "file.go:38", after := #[], guard := none }) (v := ?_) 0 rfl ?_ ?_
  rotate_left
  · (intro w hSw; (try dsimp only at hSw); first | (go_simp; done) | (go_simp; with_reducible rfl))
  try simp only [Act.put, List.setIfInBounds_toArray, List.set_cons_zero, List.set_cons_succ]
  refine tk (oi := { dst := some 13, op := Op.nilCheck (Operand.tmp 12), type := 0, pos := "file.go:38", after := #[{ on := 0, ground := Ground.data }], guard := none }) (v := ?_) 1 rfl ?_ ?_
  rotate_left
  · (intro w hSw; (try dsimp only at hSw); first | (go_simp; done) | (go_simp; with_reducible rfl))
  try simp only [Act.put, List.setIfInBounds_toArray, List.set_cons_zero, List.set_cons_succ]
  refine tk (oi := { dst := some 14, op := Op.fieldAddr 113 (Operand.tmp 13) 1, type := 0, pos := "file.go:38", after := #[{ on := 1, ground := Ground.data }], guard := none }) (v := ?_) 2 rfl ?_ ?_
  rotate_left
  · (intro w hSw; (try dsimp only at hSw); first | (go_simp; done) | (go_simp; with_reducible rfl))
  try simp only [Act.put, List.setIfInBounds_toArray, List.set_cons_zero, List.set_cons_succ]
  refine tk (oi := { dst := some 15, op := Op.load 111 (Operand.tmp 14), type := 111, pos := "file.go:38", after := #[{ on := 2, ground := Ground.data }], guard := none }) (v := ?_) 3 rfl ?_ ?_
  rotate_left
  · (intro w hSw; (try dsimp only at hSw); first | (go_simp; done) | (go_simp; with_reducible rfl))
  try simp only [Act.put, List.setIfInBounds_toArray, List.set_cons_zero, List.set_cons_succ]
  refine tk (oi := { dst := some 16, op := Op.load 9 (Operand.tmp 1), type := 9, pos := "file.go:38", after := #[], guard := none }) (v := ?_) 4 rfl ?_ ?_
  rotate_left
  · (intro w hSw; (try dsimp only at hSw); first | (go_simp; done) | (go_simp; with_reducible rfl))
  try simp only [Act.put, List.setIfInBounds_toArray, List.set_cons_zero, List.set_cons_succ]
  refine tk (oi := { dst := some 17, op := Op.load 55 (Operand.tmp 0), type := 55, pos := "file.go:38", after := #[], guard := none }) (v := ?_) 5 rfl ?_ ?_
  rotate_left
  · (intro w hSw; (try dsimp only at hSw); first | (go_simp; done) | (go_simp; with_reducible rfl))
  try simp only [Act.put, List.setIfInBounds_toArray, List.set_cons_zero, List.set_cons_succ]
  refine tk (oi := { dst := some 18, op := Op.nilCheck (Operand.tmp 17), type := 0, pos := "file.go:38", after := #[{ on := 5, ground := Ground.data }], guard := none }) (v := ?_) 6 rfl ?_ ?_
  rotate_left
  · (intro w hSw; (try dsimp only at hSw); first | (go_simp; done) | (go_simp; with_reducible rfl))
  try simp only [Act.put, List.setIfInBounds_toArray, List.set_cons_zero, List.set_cons_succ]
  refine tk (oi := { dst := some 19, op := Op.fieldAddr 113 (Operand.tmp 18) 1, type := 0, pos := "file.go:38", after := #[{ on := 6, ground := Ground.data }], guard := none }) (v := ?_) 7 rfl ?_ ?_
  rotate_left
  · (intro w hSw; (try dsimp only at hSw); first | (go_simp; done) | (go_simp; with_reducible rfl))
  try simp only [Act.put, List.setIfInBounds_toArray, List.set_cons_zero, List.set_cons_succ]
  refine tk (oi := { dst := some 20, op := Op.load 111 (Operand.tmp 19), type := 111, pos := "file.go:38", after := #[{ on := 7, ground := Ground.data }], guard := none }) (v := ?_) 8 rfl ?_ ?_
  rotate_left
  · (intro w hSw; (try dsimp only at hSw); first | (go_simp; done) | (go_simp; with_reducible rfl))
  try simp only [Act.put, List.setIfInBounds_toArray, List.set_cons_zero, List.set_cons_succ]
  refine tk (oi := { dst := some 21, op := Op.load 9 (Operand.tmp 1), type := 9, pos := "file.go:38", after := #[], guard := none }) (v := ?_) 9 rfl ?_ ?_
  rotate_left
  · (intro w hSw; (try dsimp only at hSw); first | (go_simp; done) | (go_simp; with_reducible rfl))
  try simp only [Act.put, List.setIfInBounds_toArray, List.set_cons_zero, List.set_cons_succ]
  refine tk (oi := { dst := some 23, op := Op.load 9 (Operand.tmp 2), type := 9, pos := "file.go:38", after := #[], guard := none }) (v := ?_) 11 rfl ?_ ?_
  rotate_left
  · (intro w hSw; (try dsimp only at hSw); first | (go_simp; done) | (go_simp; with_reducible rfl))
  try simp only [Act.put, List.setIfInBounds_toArray, List.set_cons_zero, List.set_cons_succ]
  refine wpAnyH_ready (rs := [10]) (by kernel_rfl) (by simp) ?_
  refine AllReadyH.cons (o := { dst := some 22, op := Op.lookup 111 (Operand.tmp 20) (Operand.tmp 21) false, type := 116, pos := "file.go:38", after := #[{ on := 8, ground := Ground.data }, { on := 9, ground := Ground.data }], guard := none }) rfl (fun K hK => ?_) AllReadyH.nil
  refine step_look (mv := .map (some mb)) (kv := .string s) (r := .agg #[.slice none 0 0, .int .i64 0]) rfl (.tmp 20) (.tmp 21) rfl rfl rfl (HLK.out _ (Bel.refl _).drew) ?_
  refine hK.out _ _ hHeld (fun hHeld1 => ?_)
  clear hK K
  try simp only [Act.put, List.setIfInBounds_toArray, List.set_cons_zero, List.set_cons_succ]
  refine wpAnyH_ready (rs := [12]) (by kernel_rfl) (by simp) ?_
  refine AllReadyH.cons (o := { dst := some 24, op := Op.call { callee := Callee.value (Operand.func 63), args := #[Operand.tmp 22, Operand.tmp 23], argTypes := #[116, 9] }, type := 116, pos := "file.go:38", after := #[{ on := 10, ground := Ground.data }, { on := 11, ground := Ground.data }], guard := none }) rfl (fun K hK => ?_) AllReadyH.nil
  go_simp
  refine (extended_nil n₀ X0.drew u hu HN0.out).mono ?_
  rintro e w2 ⟨v', rfl, hv1, hk1, hl1⟩
  have D1 := Lib.hid ((Keep.of_bel (Bel.refl X0).drew []).trans hk1 (fun x hx => Or.inl hx))
  have S2 := HSK.out [] _ _ hk1 (by simp) (by simp) (by simp) (by simp) hHeld
  have HV1 := Lib.hid hv1
  have HL1 := Lib.hid hl1
  have HV2 := Lib.hid (show FilesV n₀ w2 mb (.map []) (fun _ => .slice none 0 0) M.L none from HV.out.keep D1.out (by simp) (fun _ _ _ _ _ => by simp))
  clear hk1 hv1 hl1
  dsimp only
  refine hK.out _ _ S2 (fun hHeld2 => ?_)
  clear hK K
  try simp only [Act.put, List.setIfInBounds_toArray, List.set_cons_zero, List.set_cons_succ]
  refine wpAnyH_ready (rs := [13]) (by kernel_rfl) (by simp) ?_
  refine AllReadyH.cons (o := { dst := none, op := Op.mapUpdate 111 (Operand.tmp 15) (Operand.tmp 16) (Operand.tmp 24), type := 0, pos := "file.go:38", after := #[{ on := 3, ground := Ground.data }, { on := 4, ground := Ground.data }, { on := 12, ground := Ground.data }, { on := 12, ground := Ground.chain }, { on := 0, ground := Ground.phase }, { on := 1, ground := Ground.phase }, { on := 2, ground := Ground.phase }, { on := 3, ground := Ground.phase }, { on := 4, ground := Ground.phase }, { on := 5, ground := Ground.phase }, { on := 6, ground := Ground.phase }, { on := 7, ground := Ground.phase }, { on := 8, ground := Ground.phase }, { on := 9, ground := Ground.phase }, { on := 10, ground := Ground.phase }, { on := 11, ground := Ground.phase }, { on := 12, ground := Ground.phase }], guard := none }) rfl (fun K hK => ?_) AllReadyH.nil
  refine step_store (mb := mb) (s := s) (val := .agg #[v', .int .i64 0]) rfl (.tmp 15) (.tmp 16) (.tmp 24) rfl rfl rfl rfl HV2.out.own (by omega) hs ?_
  intro w3 ho hk
  refine hK.out _ _ (HSK.out [mb] _ _ hk (by simpa using P1) (by simpa using P2) (by simpa using P3) (by simpa using N4) S2) (fun hHeld3 => ?_)
  clear hK K
  try simp only [Act.put, List.setIfInBounds_toArray, List.set_cons_zero, List.set_cons_succ]
  refine wpAnyH_done (by kernel_rfl) ?_ _
  have HO := Lib.hid ho
  have HK := Lib.hid hk
  clear ho hk hHeld hHeld1 hHeld2 hHeld3 S2
  go_wp2_with (fail)
  go_end0
  have hval := HV1.out.keep HK.out (fun k hk1 hk2 => by
    rw [List.mem_singleton] at hk2
    subst hk2
    exact HV2.out.ne_row HV1.out hk1)
  have hadd : addF s.data.toList u.data.toList M.L = ⟨s.data.toList, u.data.toList, 0⟩ := by unfold addF; rw [HY.out]
  have hput := FilesV.put (y := ⟨s.data.toList, u.data.toList, 0⟩) (v' := v') HS.out (HV2.out.weak s.data.toList) (x := w3) (n := M.L.length + 1) (by
      have := HO.out
      exact this) HK.out hval (fun z hz hne k hk => by
      have h1 := HL1.out k hk
      intro h2
      have := ((HV.out.val z hz (by simp)).lt k h2).2
      simp at h1
      omega)
  rw [hadd]
  have KK := ((HKW.out.trans (D1.out.mono (G := F) (fun x hx => by cases hx)) (fun x hx => Or.inl hx))).trans (HK.out.mono (G := mb :: F) (fun x hx => by rw [List.mem_singleton] at hx; rw [hx]; simp)) (fun x hx => by
    rcases List.mem_cons.1 hx with rfl | hx
    · exact HMB.out
    · exact Or.inl hx)
  refine ⟨rfl, mb, _, _, (HH.out.keep D1.out (by simp)).keep HK.out (by simpa using N4), hput, KK, HMB.out, fun z hz k hk => ?_⟩
  by_cases he : z.name = s.data.toList
  · simp only [he, if_true] at hk
    exact Or.inr (Nat.le_trans HKW.out.size (by simpa using HL1.out k hk))
  · simp only [he, if_false] at hk
    rcases mem_ins hz with rfl | hz
    · exact absurd rfl he
    · exact HVF.out z hz k hk

end Go.Proofs.YtfbiinnenlgkfaaGreatDoor
/- file's Flush, Cut, Drop, Move, Add. -/
namespace Go.Proofs.YtfbiinnenlgkfaaGreatDoor
open Go.RowKit Go.Deep Go.Maps

def chgS (M : RS) (L' : List FI) : Int × RS := if M.turns = 0 then (7, (turnS M).2) else (0, { (turnS M).2 with L := L' })
def addS (nm s : List UInt8) (M : RS) : Int × RS := if admS nm s.length M = 0 then chgS M (insS (addF nm s M.L) M.L) else (admS nm s.length M, M)
def onS (nm : List UInt8) (M : RS) (k : FI → Int × RS) : Int × RS := if M.gone then (7, M) else match getF nm M.L with
  | some y => k y
  | none => (4, M)
def flushS (nm : List UInt8) (M : RS) : Int × RS := onS nm M fun y => chgS M (insS { y with safe := y.bytes.length } M.L)
def cutS (nm : List UInt8) (n : Int) (M : RS) : Int × RS := onS nm M fun y => if n < 0 ∨ (y.bytes.length : Int) < n then (2, M) else chgS M (insS { y with bytes := y.bytes.take n.toNat, safe := min y.safe n.toNat } M.L)
def dropS (nm : List UInt8) (M : RS) : Int × RS := onS nm M fun y => chgS M (outS nm M.L)
theorem turn_L (M : RS) : (turnS M).2.L = M.L := by unfold turnS; split; rfl; split <;> rfl
theorem run_enter {f : FuncId} {fn : Func} {c : Code} (hf : Tryz.prog.funcs[f]? = some fn) (hname : (fn.name == "runtime.NumGoroutine") = false) (hb : fn.body = some c) (args : Array Value) (w : World) : (callFunc f args).run Tryz.prog w = .ok (.enter f args) w := by
  have h1 : fn.name ≠ "runtime.NumGoroutine" := by simpa using hname
  simp [callFunc, hf, h1, hb]
section
variable {n₀ : Nat} {w w1 x : World} {b : Nat} {M M' : RS} {F : List Nat} {mb : Nat} {t : Int} {V : List UInt8 → Value} {L L' : List FI} {mv : Value}
theorem ProgTo.mk' (hlow : n₀ ≤ b) (hbF : b ∈ F) (hFw : ∀ k ∈ F, n₀ ≤ k ∧ k < w.heap.size) (hn0 : n₀ ≤ w.heap.size) (hk : Keep F w x) {D : DataW Value} (hdr : Hdr x b M (.map (some mb)) t) (hV : FilesV n₀ x mb D V M.L none) (hmb : mb ∈ F ∨ w.heap.size ≤ mb)
    (hv : ∀ z ∈ M.L, ∀ k, (V z.name).ownBlock = some k → k ∈ F ∨ w.heap.size ≤ k) : ProgTo n₀ w x b M F := by
  refine ⟨mb :: (F ++ M.L.filterMap fun z => (V z.name).ownBlock), ⟨⟨_, t, hdr.1, hdr.2.1, hdr.2.2, Or.inr ⟨mb, D, V, rfl, hV, by simp, fun z hz k hk => by
    rw [List.mem_cons, List.mem_append, List.mem_filterMap]
    exact Or.inr (Or.inr ⟨z, hz, hk⟩)⟩⟩, hlow, by simp [hbF], fun k hk' => ?_⟩, hk, fun k hk' => ?_⟩
  · rw [List.mem_cons, List.mem_append, List.mem_filterMap] at hk'
    rcases hk' with rfl | hk' | ⟨z, hz, hk'⟩
    · exact ⟨hV.low, hV.lt⟩
    · exact ⟨(hFw k hk').1, Nat.lt_of_lt_of_le (hFw k hk').2 hk.size⟩
    · exact (hV.val z hz (by simp)).lt k hk'
  · rw [List.mem_cons, List.mem_append, List.mem_filterMap] at hk'
    rcases hk' with rfl | hk' | ⟨z, hz, hk'⟩
    · exact hmb
    · exact Or.inl hk'
    · exact hv z hz k hk'
theorem prog_of_chg (hlow : n₀ ≤ b) (hbF : b ∈ F) (hFw : ∀ k ∈ F, n₀ ≤ k ∧ k < w.heap.size) (hn0 : n₀ ≤ w.heap.size) (hk : Keep F w w1) (hmF : mb ∈ F) (hvF : ∀ z ∈ L, ∀ k, (V z.name).ownBlock = some k → k ∈ F)
    (hc : Chg n₀ w1 x b M mb t V L L' [mb]) : ProgTo n₀ w x b { M with L := L' } F := by
  obtain ⟨D', V', h1, h2, h3, h4⟩ := hc
  refine ProgTo.mk' hlow hbF hFw hn0 (hk.trans (h3.mono (G := F) (fun x hx => by rw [List.mem_singleton] at hx; rw [hx]; exact hmF)) (fun x hx => Or.inl hx)) h1 h2 (Or.inl hmF) (fun z hz k hk' => ?_)
  rcases h4 z hz k hk' with ⟨u, hu, h5⟩ | h5
  · exact Or.inl (hvF u hu k h5)
  · exact Or.inr (Nat.le_trans hk.size h5)
theorem prog_of_added (hlow : n₀ ≤ b) (hbF : b ∈ F) (hFw : ∀ k ∈ F, n₀ ≤ k ∧ k < w.heap.size) (hn0 : n₀ ≤ w.heap.size) (hk : Keep F w w1) (hc : Added n₀ w1 x b M t L' F) : ProgTo n₀ w x b { M with L := L' } F := by
  obtain ⟨mb, D', V', h1, h2, h3, h4, h5⟩ := hc
  refine ProgTo.mk' hlow hbF hFw hn0 (hk.trans h3 (fun x hx => Or.inl hx)) h1 h2 (h4.imp id (fun h => Nat.le_trans hk.size h)) (fun z hz k hk' => (h5 z hz k hk').imp id (fun h => Nat.le_trans hk.size h))
theorem prog_of_hdr (h : ProgAt n₀ w b M F) (hmv : ∀ mv t, Hdr w b M mv t → ∃ t', Hdr x b M' mv t') (hL : M'.L = M.L) (hk : ∃ y, Bel w y ∧ Keep [b] y x) : ProgTo n₀ w x b M' F := by
  obtain ⟨y, hb, hk⟩ := hk
  have hK := (Keep.of_bel hb [b]).trans hk (fun x hx => Or.inl hx)
  obtain ⟨G, h1, h2, h3⟩ := h.set2 (x := x) (M' := M') (fun mv t h1 h2 h3 => by
    obtain ⟨t', h⟩ := hmv mv t ⟨h1, h2, h3⟩
    exact ⟨t', h⟩) hL hK
  exact ⟨G, h1, h2, h3⟩
end
theorem le_sz {n₀ : Nat} {w : World} {b : Nat} {M : RS} {F : List Nat} (h : ProgAt n₀ w b M F) : n₀ ≤ w.heap.size := by
  have := h.within b h.mem; omega

set_option maxHeartbeats 4000000 in
set_option maxRecDepth 20000 in
theorem pflush_any (n₀ : Nat) (w : World) (b : Nat) (M : RS) (F : List Nat) (s : ByteArray) (h : ProgAt n₀ w b M F) (hs : s.size ≤ maxLen) (hS : Srt M.L) (hL : M.L.length ≤ 1000) :
    Calls Tryz.prog 88 #[.pointer (some ⟨b, 0, none⟩), .string s] w fun e w' => e = .returned (.int .i64 (flushS s.data.toList M).1) ∧ ProgTo n₀ w w' b (flushS s.data.toList M).2 F := by
  have HP := Lib.hid h
  obtain ⟨⟨mv, t, hb, ht, h64, hf⟩, hlow, hbF, hFw⟩ := h
  have B2 := Lib.hid (((Bel.refl w).alloc (.cells #[.pointer (some ⟨b, 0, none⟩)] 55)).alloc (.cells #[.string s] 9))
  cases hg : M.gone with
  | true =>
    have HA := Lib.hid (show flushS s.data.toList M = (7, M) by unfold flushS onS; rw [if_pos hg])
    have HG := Lib.hid hg
    clear hb hf hg hFw ht h64
    go_enter Tryz.func88, Tryz.ntmps88
    go_wp2_with (fail)
    refine (find_gone n₀ _ b M F s (HP.out.bel B2.out) HG.out).mono ?_
    rintro e w1 ⟨rfl, hb1⟩
    have HB := Lib.hid (B2.out.trans hb1)
    clear hb1
    unfold conZ
    go_wp2_with (fail)
    go_ret
    rw [HA.out]
    exact ⟨rfl, HP.out.to (HB.out.alloc _)⟩
  | false =>
    cases hy : getF s.data.toList M.L with
    | none =>
      have HA := Lib.hid (show flushS s.data.toList M = (4, M) by unfold flushS onS; rw [hg, hy]; rfl)
      have HG := Lib.hid hg
      have HY := Lib.hid hy
      clear hb hf hg hy hFw ht h64
      go_enter Tryz.func88, Tryz.ntmps88
      go_wp2_with (fail)
      refine (find_none n₀ _ b M F s (HP.out.bel B2.out) HG.out hs HY.out).mono ?_
      rintro e w1 ⟨rfl, hb1⟩
      have HB := Lib.hid (B2.out.trans hb1)
      clear hb1
      unfold conZ
      go_wp2_with (fail)
      go_ret
      rw [HA.out]
      exact ⟨rfl, HP.out.to (HB.out.alloc _)⟩
    | some y =>
      rcases hf with ⟨_, hL0⟩ | ⟨mb, D, V, rfl, hV, hmF, hvF⟩
      · rw [hL0] at hy; cases hy
      have HA := Lib.hid (show flushS s.data.toList M = chgS M (insS { y with safe := y.bytes.length } M.L) by unfold flushS onS; rw [hg, hy]; rfl)
      have hsn : s.data.toList = y.name := (getF_name hy).symm
      obtain ⟨p, cap, hp, -⟩ := own_len (hV.val y (getF_mem hy) (by simp))
      have HF := Lib.hid (fun x (hx : Bel w x) => find_some n₀ x b M mb t D V s y ((Keep.of_bel hx []).at hb (by simp)) (hV.bel hx) hg hs hy)
      rw [hsn, hp] at HF
      unfold conV at HF
      have HV := Lib.hid hV
      have HH := Lib.hid (show Hdr w b M (.map (some mb)) t from ⟨hb, ht, h64⟩)
      have HS := Lib.hid hS
      have HY := Lib.hid hy
      have HPV := Lib.hid hp
      have HFW := Lib.hid hFw
      have HMF := Lib.hid hmF
      have HVF := Lib.hid hvF
      have hbw : b < w.heap.size := (hFw b hbF).2
      clear hb hV hg hy hp hFw ht h64 hmF hvF hS hsn
      go_enter Tryz.func88, Tryz.ntmps88
      go_wp2_with (fail)
      refine (HF.out _ B2.out).mono ?_
      rintro e w1 ⟨rfl, hb1⟩
      have HB := Lib.hid (B2.out.trans hb1)
      have hz : w.heap.size + 1 < w1.heap.size := by have := hb1.size; simp at this; omega
      have hz0 : w.heap.size < w1.heap.size := by omega
      have k0 : w1.cell? ⟨w.heap.size, 0, none⟩ = some (.pointer (some ⟨b, 0, none⟩)) := cell_later hb1 (by go_simp)
      have k1 : w1.cell? ⟨w.heap.size + 1, 0, none⟩ = some (.string s) := cell_later hb1 (by go_simp)
      clear hb1
      go_wp2_with (fail)
      obtain ⟨w2, hw2⟩ : ∃ w2, w2 = w1.alloc (.cells #[.slice p y.bytes.length cap, .int .i64 y.safe] 116) := ⟨_, rfl⟩
      rw [← hw2]
      have HB2 := Lib.hid (show Bel w w2 by rw [hw2]; exact HB.out.alloc _)
      have m0 : w2.cell? ⟨w.heap.size, 0, none⟩ = some (.pointer (some ⟨b, 0, none⟩)) := by rw [hw2]; exact cell_later ((Bel.refl w1).alloc _) k0
      have m1 : w2.cell? ⟨w.heap.size + 1, 0, none⟩ = some (.string s) := by rw [hw2]; exact cell_later ((Bel.refl w1).alloc _) k1
      have m2 : w2.cell? ⟨w1.heap.size, 0, none⟩ = some (.slice p y.bytes.length cap) := by rw [hw2]; go_simp
      have m3 : w2.cell? ⟨w1.heap.size, 1, none⟩ = some (.int .i64 y.safe) := by rw [hw2]; go_simp
      have hne := HH.out.ne HV.out.own
      refine (pturn_any w2 b M (.map (some mb)) t _ _ (HH.out.keep (Keep.of_bel HB2.out []) (by simp)) (fun z => ProgTo n₀ w z b { (turnS M).2 with L := insS { y with safe := y.bytes.length } M.L } F) (run_enter Tryz.func120 (by kernel_rfl) rfl _) ?_).mono ?_
      · intro w3 t3 hdr hk
        have hV3 : FilesV n₀ w3 mb D V (turnS M).2.L none := by
          rw [turn_L]
          exact (HV.out.bel HB2.out).keep hk (by simpa using fun e => hne e.symm) (fun u hu _ k hk1 hk2 => by
            rw [List.mem_singleton] at hk2
            subst hk2
            exact HH.out.ne_row (HV.out.val u hu (by simp)) (by rw [Option.mem_toList]; exact hk1))
        refine (flushcl_any n₀ w3 b mb (turnS M).2 t3 D V w1.heap.size w.heap.size (w.heap.size + 1) s y hdr hV3 (by rw [turn_L]; exact HS.out) (by rw [turn_L]; exact hL) hs (by rw [turn_L]; exact HY.out) HPV.out rfl
          (hk.cell m2 (by simp; omega)) (hk.cell m3 (by simp; omega)) (hk.cell m0 (by simp; omega)) (hk.cell m1 (by simp; omega))).mono ?_
        rintro e w4 ⟨rfl, hc⟩
        rw [turn_L] at hc
        exact ⟨rfl, prog_of_chg hlow hbF HFW.out (le_sz HP.out) ((Keep.of_bel HB2.out F).trans (hk.mono (G := F) (fun x hx => by rw [List.mem_singleton] at hx; rw [hx]; exact hbF)) (fun x hx => Or.inl hx)) HMF.out HVF.out hc⟩
      · rintro e w5 ⟨rfl, h0, h1⟩
        have R0 := Lib.hid h0
        have R1 := Lib.hid h1
        clear h0 h1 hw2
        go_wp2_with (fail)
        go_ret
        rw [HA.out]
        unfold chgS
        by_cases hT : M.turns = 0
        · rw [if_pos hT]
          obtain ⟨r1, r2⟩ := R0.out hT
          exact ⟨ret_int (by rw [turnS_zero hT]), prog_of_hdr HP.out (fun mv' t' h' => ⟨t, by
            have e : mv' = .map (some mb) := by
              have := h'.1.symm.trans HH.out.1
              simp at this
              exact this.1
            rw [e]; exact r1⟩) (turn_L M) ⟨w2, HB2.out, r2⟩⟩
        · rw [if_neg hT]
          refine ⟨?_, R1.out hT⟩
          rcases Int.lt_or_gt_of_ne hT with h | h
          · exact ret_int (by rw [turnS_neg h])
          · exact ret_int (by rw [turnS_pos h])
end Go.Proofs.YtfbiinnenlgkfaaGreatDoor
/- file's Cut, Drop, Move. -/
namespace Go.Proofs.YtfbiinnenlgkfaaGreatDoor
open Go.RowKit Go.Deep Go.Maps

set_option maxHeartbeats 4000000 in
set_option maxRecDepth 20000 in
theorem pdrop_any (n₀ : Nat) (w : World) (b : Nat) (M : RS) (F : List Nat) (s : ByteArray) (h : ProgAt n₀ w b M F) (hs : s.size ≤ maxLen) (hS : Srt M.L) (hL : M.L.length ≤ 1000) :
    Calls Tryz.prog 90 #[.pointer (some ⟨b, 0, none⟩), .string s] w fun e w' => e = .returned (.int .i64 (dropS s.data.toList M).1) ∧ ProgTo n₀ w w' b (dropS s.data.toList M).2 F := by
  have HP := Lib.hid h
  obtain ⟨⟨mv, t, hb, ht, h64, hf⟩, hlow, hbF, hFw⟩ := h
  have B2 := Lib.hid (((Bel.refl w).alloc (.cells #[.pointer (some ⟨b, 0, none⟩)] 55)).alloc (.cells #[.string s] 9))
  cases hg : M.gone with
  | true =>
    have HA := Lib.hid (show dropS s.data.toList M = (7, M) by unfold dropS onS; rw [if_pos hg])
    have HG := Lib.hid hg
    clear hb hf hg hFw ht h64
    go_enter Tryz.func90, Tryz.ntmps90
    go_wp2_with (fail)
    refine (find_gone n₀ _ b M F s (HP.out.bel B2.out) HG.out).mono ?_
    rintro e w1 ⟨rfl, hb1⟩
    have HB := Lib.hid (B2.out.trans hb1)
    clear hb1
    unfold conZ
    go_wp2_with (fail)
    go_ret
    rw [HA.out]
    exact ⟨rfl, HP.out.to (HB.out.alloc _)⟩
  | false =>
    cases hy : getF s.data.toList M.L with
    | none =>
      have HA := Lib.hid (show dropS s.data.toList M = (4, M) by unfold dropS onS; rw [hg, hy]; rfl)
      have HG := Lib.hid hg
      have HY := Lib.hid hy
      clear hb hf hg hy hFw ht h64
      go_enter Tryz.func90, Tryz.ntmps90
      go_wp2_with (fail)
      refine (find_none n₀ _ b M F s (HP.out.bel B2.out) HG.out hs HY.out).mono ?_
      rintro e w1 ⟨rfl, hb1⟩
      have HB := Lib.hid (B2.out.trans hb1)
      clear hb1
      unfold conZ
      go_wp2_with (fail)
      go_ret
      rw [HA.out]
      exact ⟨rfl, HP.out.to (HB.out.alloc _)⟩
    | some y =>
      rcases hf with ⟨_, hL0⟩ | ⟨mb, D, V, rfl, hV, hmF, hvF⟩
      · rw [hL0] at hy; cases hy
      have HA := Lib.hid (show dropS s.data.toList M = chgS M (outS s.data.toList M.L) by unfold dropS onS; rw [hg, hy]; rfl)
      have hsn : s.data.toList = y.name := (getF_name hy).symm
      obtain ⟨p, cap, hp, -⟩ := own_len (hV.val y (getF_mem hy) (by simp))
      have HF := Lib.hid (fun x (hx : Bel w x) => find_some n₀ x b M mb t D V s y ((Keep.of_bel hx []).at hb (by simp)) (hV.bel hx) hg hs hy)
      rw [hsn, hp] at HF
      unfold conV at HF
      have HV := Lib.hid hV
      have HH := Lib.hid (show Hdr w b M (.map (some mb)) t from ⟨hb, ht, h64⟩)
      have HS := Lib.hid hS
      have HY := Lib.hid hy
      have HPV := Lib.hid hp
      have HFW := Lib.hid hFw
      have HMF := Lib.hid hmF
      have HVF := Lib.hid hvF
      have hbw : b < w.heap.size := (hFw b hbF).2
      clear hb hV hg hy hp hFw ht h64 hmF hvF hS hsn
      go_enter Tryz.func90, Tryz.ntmps90
      go_wp2_with (fail)
      refine (HF.out _ B2.out).mono ?_
      rintro e w1 ⟨rfl, hb1⟩
      have HB := Lib.hid (B2.out.trans hb1)
      have hz : w.heap.size + 1 < w1.heap.size := by have := hb1.size; simp at this; omega
      have hz0 : w.heap.size < w1.heap.size := by omega
      have k0 : w1.cell? ⟨w.heap.size, 0, none⟩ = some (.pointer (some ⟨b, 0, none⟩)) := cell_later hb1 (by go_simp)
      have k1 : w1.cell? ⟨w.heap.size + 1, 0, none⟩ = some (.string s) := cell_later hb1 (by go_simp)
      clear hb1
      go_wp2_with (fail)
      obtain ⟨w2, hw2⟩ : ∃ w2, w2 = w1.alloc (.cells #[.slice p y.bytes.length cap, .int .i64 y.safe] 116) := ⟨_, rfl⟩
      rw [← hw2]
      have HB2 := Lib.hid (show Bel w w2 by rw [hw2]; exact HB.out.alloc _)
      have m0 : w2.cell? ⟨w.heap.size, 0, none⟩ = some (.pointer (some ⟨b, 0, none⟩)) := by rw [hw2]; exact cell_later ((Bel.refl w1).alloc _) k0
      have m1 : w2.cell? ⟨w.heap.size + 1, 0, none⟩ = some (.string s) := by rw [hw2]; exact cell_later ((Bel.refl w1).alloc _) k1
      have m2 : w2.cell? ⟨w1.heap.size, 0, none⟩ = some (.slice p y.bytes.length cap) := by rw [hw2]; go_simp
      have m3 : w2.cell? ⟨w1.heap.size, 1, none⟩ = some (.int .i64 y.safe) := by rw [hw2]; go_simp
      have hne := HH.out.ne HV.out.own
      refine (pturn_any w2 b M (.map (some mb)) t _ _ (HH.out.keep (Keep.of_bel HB2.out []) (by simp)) (fun z => ProgTo n₀ w z b { (turnS M).2 with L := outS s.data.toList M.L } F) (run_enter Tryz.func123 (by kernel_rfl) rfl _) ?_).mono ?_
      · intro w3 t3 hdr hk
        have hV3 : FilesV n₀ w3 mb D V (turnS M).2.L none := by
          rw [turn_L]
          exact (HV.out.bel HB2.out).keep hk (by simpa using fun e => hne e.symm) (fun u hu _ k hk1 hk2 => by
            rw [List.mem_singleton] at hk2
            subst hk2
            exact HH.out.ne_row (HV.out.val u hu (by simp)) (by rw [Option.mem_toList]; exact hk1))
        refine (dropcl_any n₀ w3 b mb (turnS M).2 t3 D V w.heap.size (w.heap.size + 1) s hdr hV3 (by rw [turn_L]; exact HS.out) hs
          (hk.cell m0 (by simp; omega)) (hk.cell m1 (by simp; omega))).mono ?_
        rintro e w4 ⟨rfl, hc⟩
        rw [turn_L] at hc
        exact ⟨rfl, prog_of_chg hlow hbF HFW.out (le_sz HP.out) ((Keep.of_bel HB2.out F).trans (hk.mono (G := F) (fun x hx => by rw [List.mem_singleton] at hx; rw [hx]; exact hbF)) (fun x hx => Or.inl hx)) HMF.out HVF.out hc⟩
      · rintro e w5 ⟨rfl, h0, h1⟩
        have R0 := Lib.hid h0
        have R1 := Lib.hid h1
        clear h0 h1 hw2
        go_wp2_with (fail)
        go_ret
        rw [HA.out]
        unfold chgS
        by_cases hT : M.turns = 0
        · rw [if_pos hT]
          obtain ⟨r1, r2⟩ := R0.out hT
          exact ⟨ret_int (by rw [turnS_zero hT]), prog_of_hdr HP.out (fun mv' t' h' => ⟨t, by
            have e : mv' = .map (some mb) := by
              have := h'.1.symm.trans HH.out.1
              simp at this
              exact this.1
            rw [e]; exact r1⟩) (turn_L M) ⟨w2, HB2.out, r2⟩⟩
        · rw [if_neg hT]
          refine ⟨?_, R1.out hT⟩
          rcases Int.lt_or_gt_of_ne hT with h | h
          · exact ret_int (by rw [turnS_neg h])
          · exact ret_int (by rw [turnS_pos h])

set_option maxHeartbeats 4000000 in
set_option maxRecDepth 20000 in
theorem pcut_any (n₀ : Nat) (w : World) (b : Nat) (M : RS) (F : List Nat) (s : ByteArray) (q : Int) (hq : in64 q) (hsz : ∀ z ∈ M.L, z.bytes.length ≤ 1000000000) (h : ProgAt n₀ w b M F) (hs : s.size ≤ maxLen) (hS : Srt M.L) (hL : M.L.length ≤ 1000) :
    Calls Tryz.prog 153 #[.pointer (some ⟨b, 0, none⟩), .string s, .int .i64 q] w fun e w' => e = .returned (.int .i64 (cutS s.data.toList q M).1) ∧ ProgTo n₀ w w' b (cutS s.data.toList q M).2 F := by
  have HP := Lib.hid h
  obtain ⟨⟨mv, t, hb, ht, h64, hf⟩, hlow, hbF, hFw⟩ := h
  have B2 := Lib.hid ((((Bel.refl w).alloc (.cells #[.pointer (some ⟨b, 0, none⟩)] 55)).alloc (.cells #[.string s] 9)).alloc (.cells #[.int .i64 q] 3))
  cases hg : M.gone with
  | true =>
    have HA := Lib.hid (show cutS s.data.toList q M = (7, M) by unfold cutS onS; rw [if_pos hg])
    have HG := Lib.hid hg
    clear hb hf hg hFw ht h64
    go_enter Tryz.func153, Tryz.ntmps153
    go_wp2_with (fail)
    refine (find_gone n₀ _ b M F s (HP.out.bel B2.out) HG.out).mono ?_
    rintro e w1 ⟨rfl, hb1⟩
    have HB := Lib.hid (B2.out.trans hb1)
    clear hb1
    unfold conZ
    go_wp2_with (fail)
    go_ret
    rw [HA.out]
    exact ⟨rfl, HP.out.to (HB.out.alloc _)⟩
  | false =>
    cases hy : getF s.data.toList M.L with
    | none =>
      have HA := Lib.hid (show cutS s.data.toList q M = (4, M) by unfold cutS onS; rw [hg, hy]; rfl)
      have HG := Lib.hid hg
      have HY := Lib.hid hy
      clear hb hf hg hy hFw ht h64
      go_enter Tryz.func153, Tryz.ntmps153
      go_wp2_with (fail)
      refine (find_none n₀ _ b M F s (HP.out.bel B2.out) HG.out hs HY.out).mono ?_
      rintro e w1 ⟨rfl, hb1⟩
      have HB := Lib.hid (B2.out.trans hb1)
      clear hb1
      unfold conZ
      go_wp2_with (fail)
      go_ret
      rw [HA.out]
      exact ⟨rfl, HP.out.to (HB.out.alloc _)⟩
    | some y =>
      rcases hf with ⟨_, hL0⟩ | ⟨mb, D, V, rfl, hV, hmF, hvF⟩
      · rw [hL0] at hy; cases hy
      have HA := Lib.hid (show cutS s.data.toList q M = if q < 0 ∨ (y.bytes.length : Int) < q then (2, M) else chgS M (insS { y with bytes := y.bytes.take q.toNat, safe := min y.safe q.toNat } M.L) by unfold cutS onS; rw [hg, hy]; rfl)
      have hyz := hsz y (getF_mem hy)
      have hsn : s.data.toList = y.name := (getF_name hy).symm
      obtain ⟨p, cap, hp, -⟩ := own_len (hV.val y (getF_mem hy) (by simp))
      have HF := Lib.hid (fun x (hx : Bel w x) => find_some n₀ x b M mb t D V s y ((Keep.of_bel hx []).at hb (by simp)) (hV.bel hx) hg hs hy)
      rw [hsn, hp] at HF
      unfold conV at HF
      have HV := Lib.hid hV
      have HH := Lib.hid (show Hdr w b M (.map (some mb)) t from ⟨hb, ht, h64⟩)
      have HS := Lib.hid hS
      have HY := Lib.hid hy
      have HPV := Lib.hid hp
      have HFW := Lib.hid hFw
      have HMF := Lib.hid hmF
      have HVF := Lib.hid hvF
      have hbw : b < w.heap.size := (hFw b hbF).2
      clear hb hV hg hy hp hFw ht h64 hmF hvF hS hsn
      by_cases h1 : q < 0
      · rw [if_pos (Or.inl h1)] at HA
        go_enter Tryz.func153, Tryz.ntmps153
        go_wp2_with (fail)
        refine (HF.out _ B2.out).mono ?_
        rintro e w1 ⟨rfl, hb1⟩
        have HB := Lib.hid (B2.out.trans hb1)
        have hz2 : w.heap.size + 2 < w1.heap.size := by have := hb1.size; simp at this; omega
        have hz : w.heap.size + 1 < w1.heap.size := by have := hb1.size; simp at this; omega
        have hz0 : w.heap.size < w1.heap.size := by omega
        have k0 : w1.cell? ⟨w.heap.size, 0, none⟩ = some (.pointer (some ⟨b, 0, none⟩)) := cell_later hb1 (by go_simp)
        have k1 : w1.cell? ⟨w.heap.size + 1, 0, none⟩ = some (.string s) := cell_later hb1 (by go_simp)
        have k2 : w1.cell? ⟨w.heap.size + 2, 0, none⟩ = some (.int .i64 q) := cell_later hb1 (by go_simp)
        clear hb1
        go_wp2_with (fail)
        go_ret
        rw [HA.out]
        exact ⟨rfl, HP.out.to (HB.out.alloc _)⟩
      · by_cases h2 : (y.bytes.length : Int) < q
        · rw [if_pos (Or.inr h2)] at HA
          go_enter Tryz.func153, Tryz.ntmps153
          go_wp2_with (fail)
          refine (HF.out _ B2.out).mono ?_
          rintro e w1 ⟨rfl, hb1⟩
          have HB := Lib.hid (B2.out.trans hb1)
          have hz2 : w.heap.size + 2 < w1.heap.size := by have := hb1.size; simp at this; omega
          have hz : w.heap.size + 1 < w1.heap.size := by have := hb1.size; simp at this; omega
          have hz0 : w.heap.size < w1.heap.size := by omega
          have k0 : w1.cell? ⟨w.heap.size, 0, none⟩ = some (.pointer (some ⟨b, 0, none⟩)) := cell_later hb1 (by go_simp)
          have k1 : w1.cell? ⟨w.heap.size + 1, 0, none⟩ = some (.string s) := cell_later hb1 (by go_simp)
          have k2 : w1.cell? ⟨w.heap.size + 2, 0, none⟩ = some (.int .i64 q) := cell_later hb1 (by go_simp)
          clear hb1
          go_wp2_with (fail)
          go_ret
          rw [HA.out]
          exact ⟨rfl, HP.out.to (HB.out.alloc _)⟩
        · rw [if_neg (by omega)] at HA
          go_enter Tryz.func153, Tryz.ntmps153
          go_wp2_with (fail)
          refine (HF.out _ B2.out).mono ?_
          rintro e w1 ⟨rfl, hb1⟩
          have HB := Lib.hid (B2.out.trans hb1)
          have hz2 : w.heap.size + 2 < w1.heap.size := by have := hb1.size; simp at this; omega
          have hz : w.heap.size + 1 < w1.heap.size := by have := hb1.size; simp at this; omega
          have hz0 : w.heap.size < w1.heap.size := by omega
          have k0 : w1.cell? ⟨w.heap.size, 0, none⟩ = some (.pointer (some ⟨b, 0, none⟩)) := cell_later hb1 (by go_simp)
          have k1 : w1.cell? ⟨w.heap.size + 1, 0, none⟩ = some (.string s) := cell_later hb1 (by go_simp)
          have k2 : w1.cell? ⟨w.heap.size + 2, 0, none⟩ = some (.int .i64 q) := cell_later hb1 (by go_simp)
          clear hb1
          go_wp2_with (fail)
          obtain ⟨w2, hw2⟩ : ∃ w2, w2 = w1.alloc (.cells #[.slice p y.bytes.length cap, .int .i64 y.safe] 116) := ⟨_, rfl⟩
          rw [← hw2]
          have HB2 := Lib.hid (show Bel w w2 by rw [hw2]; exact HB.out.alloc _)
          have m0 : w2.cell? ⟨w.heap.size, 0, none⟩ = some (.pointer (some ⟨b, 0, none⟩)) := by rw [hw2]; exact cell_later ((Bel.refl w1).alloc _) k0
          have m1 : w2.cell? ⟨w.heap.size + 1, 0, none⟩ = some (.string s) := by rw [hw2]; exact cell_later ((Bel.refl w1).alloc _) k1
          have m4 : w2.cell? ⟨w.heap.size + 2, 0, none⟩ = some (.int .i64 q) := by rw [hw2]; exact cell_later ((Bel.refl w1).alloc _) k2
          have m2 : w2.cell? ⟨w1.heap.size, 0, none⟩ = some (.slice p y.bytes.length cap) := by rw [hw2]; go_simp
          have m3 : w2.cell? ⟨w1.heap.size, 1, none⟩ = some (.int .i64 y.safe) := by rw [hw2]; go_simp
          have hne := HH.out.ne HV.out.own
          refine (pturn_any w2 b M (.map (some mb)) t _ _ (HH.out.keep (Keep.of_bel HB2.out []) (by simp)) (fun z => ProgTo n₀ w z b { (turnS M).2 with L := insS { y with bytes := y.bytes.take q.toNat, safe := min y.safe q.toNat } M.L } F) (run_enter Tryz.func177 (by kernel_rfl) rfl _) ?_).mono ?_
          · intro w3 t3 hdr hk
            have hV3 : FilesV n₀ w3 mb D V (turnS M).2.L none := by
              rw [turn_L]
              exact (HV.out.bel HB2.out).keep hk (by simpa using fun e => hne e.symm) (fun u hu _ k hk1 hk2 => by
                rw [List.mem_singleton] at hk2
                subst hk2
                exact HH.out.ne_row (HV.out.val u hu (by simp)) (by rw [Option.mem_toList]; exact hk1))
            refine (cutcl_any n₀ w3 b mb (turnS M).2 t3 D V w1.heap.size (w.heap.size + 2) w.heap.size (w.heap.size + 1) s y hdr hV3 (by rw [turn_L]; exact HS.out) (by rw [turn_L]; exact hL) hs (by rw [turn_L]; exact HY.out) HPV.out rfl q.toNat (by omega) (by rw [show ((q.toNat : Nat) : Int) = q by omega]; exact hk.cell m4 (by simp; omega))
              (hk.cell m2 (by simp; omega)) (hk.cell m3 (by simp; omega)) (hk.cell m0 (by simp; omega)) (hk.cell m1 (by simp; omega))).mono ?_
            rintro e w4 ⟨rfl, hc⟩
            rw [turn_L] at hc
            exact ⟨rfl, prog_of_chg hlow hbF HFW.out (le_sz HP.out) ((Keep.of_bel HB2.out F).trans (hk.mono (G := F) (fun x hx => by rw [List.mem_singleton] at hx; rw [hx]; exact hbF)) (fun x hx => Or.inl hx)) HMF.out HVF.out hc⟩
          · rintro e w5 ⟨rfl, h0, h1⟩
            have R0 := Lib.hid h0
            have R1 := Lib.hid h1
            clear h0 h1 hw2
            go_wp2_with (fail)
            go_ret
            rw [HA.out]
            unfold chgS
            by_cases hT : M.turns = 0
            · rw [if_pos hT]
              obtain ⟨r1, r2⟩ := R0.out hT
              exact ⟨ret_int (by rw [turnS_zero hT]), prog_of_hdr HP.out (fun mv' t' h' => ⟨t, by
                have e : mv' = .map (some mb) := by
                  have := h'.1.symm.trans HH.out.1
                  simp at this
                  exact this.1
                rw [e]; exact r1⟩) (turn_L M) ⟨w2, HB2.out, r2⟩⟩
            · rw [if_neg hT]
              refine ⟨?_, R1.out hT⟩
              rcases Int.lt_or_gt_of_ne hT with h | h
              · exact ret_int (by rw [turnS_neg h])
              · exact ret_int (by rw [turnS_pos h])

end Go.Proofs.YtfbiinnenlgkfaaGreatDoor
/- file's Add. -/
namespace Go.Proofs.YtfbiinnenlgkfaaGreatDoor
open Go.RowKit Go.Deep Go.Maps

set_option maxHeartbeats 4000000 in
set_option maxRecDepth 20000 in
theorem padd_any (n₀ : Nat) (w : World) (b : Nat) (M : RS) (F : List Nat) (s u : ByteArray) (h : ProgAt n₀ w b M F) (hs : s.size ≤ 1000000) (hu : u.size ≤ 1000000) (hS : Srt M.L) (hL : M.L.length ≤ 1000) (hB : bytesN M.L ≤ 1000000000) (hroom : 0 ≤ M.room ∧ M.room ≤ 10000000) :
    Calls Tryz.prog 35 #[.pointer (some ⟨b, 0, none⟩), .string s, .string u] w fun e w' => e = .returned (.int .i64 (addS s.data.toList u.data.toList M).1) ∧ ProgTo n₀ w w' b (addS s.data.toList u.data.toList M).2 F := by
  have HP := Lib.hid h
  obtain ⟨⟨mv, t, hb, ht, h64, hf⟩, hlow, hbF, hFw⟩ := h
  have B2 := Lib.hid ((((Bel.refl w).alloc (.cells #[.pointer (some ⟨b, 0, none⟩)] 55)).alloc (.cells #[.string s] 9)).alloc (.cells #[.string u] 9))
  have hus : u.data.toList.length = u.size := rfl
  obtain ⟨adm, hadm⟩ : ∃ adm, adm = admS s.data.toList u.size M := ⟨_, rfl⟩
  have HAD := Lib.hid (fun x (hx : Bel w x) => hadm ▸ admits_any n₀ x b M F s u.size (HP.out.bel hx) hs hu hS hB hL hroom)
  have hsm := Lib.hid (show s.size ≤ maxLen by unfold maxLen; omega)
  have HH := Lib.hid (show Hdr w b M mv t from ⟨hb, ht, h64⟩)
  have HS := Lib.hid hS
  have HBN := Lib.hid hB
  have HFW := Lib.hid hFw
  have HFA := Lib.hid hf
  have hbw : b < w.heap.size := (hFw b hbF).2
  clear hb hf hFw ht h64 hS
  by_cases ha : adm = 0
  · have HA := Lib.hid (show addS s.data.toList u.data.toList M = chgS M (insS (addF s.data.toList u.data.toList M.L) M.L) by unfold addS; rw [hus, ← hadm, if_pos ha])
    subst ha
    clear hadm
    go_enter Tryz.func35, Tryz.ntmps35
    go_wp2_with (fail)
    refine (HAD.out _ B2.out).mono ?_
    rintro e w2 ⟨rfl, hb1⟩
    have HB2 := Lib.hid (B2.out.trans hb1)
    have hz2 : w.heap.size + 2 < w2.heap.size := by have := hb1.size; simp at this; omega
    have m0 : w2.cell? ⟨w.heap.size, 0, none⟩ = some (.pointer (some ⟨b, 0, none⟩)) := cell_later hb1 (by go_simp)
    have m1 : w2.cell? ⟨w.heap.size + 1, 0, none⟩ = some (.string s) := cell_later hb1 (by go_simp)
    have m2 : w2.cell? ⟨w.heap.size + 2, 0, none⟩ = some (.string u) := cell_later hb1 (by go_simp)
    clear hb1
    go_wp2_with (fail)
    refine (pturn_any w2 b M mv t _ _ (HH.out.keep (Keep.of_bel HB2.out []) (by simp)) (fun z => ProgTo n₀ w z b { (turnS M).2 with L := insS (addF s.data.toList u.data.toList M.L) M.L } F) (run_enter Tryz.func62 (by kernel_rfl) rfl _) ?_).mono ?_
    · intro w3 t3 hdr hk
      have nf : w.heap.size ∉ F ∧ w.heap.size + 1 ∉ F ∧ w.heap.size + 2 ∉ F := by
        refine ⟨fun h => ?_, fun h => ?_, fun h => ?_⟩ <;> have := (HFW.out _ h).2 <;> omega
      have q0 := hk.cell m0 (by simp; omega)
      have q1 := hk.cell m1 (by simp; omega)
      have q2 := hk.cell m2 (by simp; omega)
      have hn0 : n₀ ≤ w3.heap.size := Nat.le_trans (le_sz HP.out) (Nat.le_trans HB2.out.size hk.size)
      have KF := (Keep.of_bel HB2.out F).trans (hk.mono (G := F) (fun x hx => by rw [List.mem_singleton] at hx; rw [hx]; exact hbF)) (fun x hx => Or.inl hx)
      have fin : ∀ w4, Added n₀ w3 w4 b (turnS M).2 t3 (insS (addF s.data.toList u.data.toList (turnS M).2.L) (turnS M).2.L) F → ProgTo n₀ w w4 b { (turnS M).2 with L := insS (addF s.data.toList u.data.toList M.L) M.L } F := by
        intro w4 hc
        rw [turn_L] at hc
        exact prog_of_added hlow hbF HFW.out (le_sz HP.out) KF hc
      rcases HFA.out with ⟨rfl, hL0⟩ | ⟨mb, D, V, rfl, hV, hmF, hvF⟩
      · refine (addcl_nil n₀ w3 b (turnS M).2 t3 F w.heap.size (w.heap.size + 1) (w.heap.size + 2) s u hdr (by rw [turn_L]; exact hL0) (by rw [turn_L]; exact HS.out) (by rw [turn_L]; exact hL) hbF hn0 hsm.out hu q0 q1 q2 nf).mono ?_
        rintro e w4 ⟨rfl, hc⟩
        exact ⟨rfl, fin w4 hc⟩
      · have hne := HH.out.ne hV.own
        have hV3 : FilesV n₀ w3 mb D V (turnS M).2.L none := by
          rw [turn_L]
          exact (hV.bel HB2.out).keep hk (by simpa using fun e => hne e.symm) (fun u hu _ k hk1 hk2 => by
            rw [List.mem_singleton] at hk2
            subst hk2
            exact HH.out.ne_row (hV.val u hu (by simp)) (by rw [Option.mem_toList]; exact hk1))
        cases hy : getF s.data.toList M.L with
        | none =>
          refine (addcl_none n₀ w3 b (turnS M).2 t3 F mb D V w.heap.size (w.heap.size + 1) (w.heap.size + 2) s u hdr hV3 hmF (by rw [turn_L]; exact hvF) (by rw [turn_L]; exact HS.out) (by rw [turn_L]; exact hL) hbF hn0 hsm.out hu (by rw [turn_L]; exact hy) q0 q1 q2 nf).mono ?_
          rintro e w4 ⟨rfl, hc⟩
          exact ⟨rfl, fin w4 hc⟩
        | some y =>
          refine (addcl_some n₀ w3 b (turnS M).2 t3 F mb D V w.heap.size (w.heap.size + 1) (w.heap.size + 2) s u hdr hV3 hmF (by rw [turn_L]; exact hvF) (by rw [turn_L]; exact HS.out) (by rw [turn_L]; exact hL) hbF hn0 hsm.out hu y (by rw [turn_L]; exact hy) (Nat.le_trans (bytes_mem (getF_mem hy)) HBN.out) q0 q1 q2 nf).mono ?_
          rintro e w4 ⟨rfl, hc⟩
          exact ⟨rfl, fin w4 hc⟩
    · rintro e w5 ⟨rfl, h0, h1⟩
      have R0 := Lib.hid h0
      have R1 := Lib.hid h1
      clear h0 h1
      go_wp2_with (fail)
      go_ret
      rw [HA.out]
      unfold chgS
      by_cases hT : M.turns = 0
      · rw [if_pos hT]
        obtain ⟨r1, r2⟩ := R0.out hT
        exact ⟨ret_int (by rw [turnS_zero hT]), prog_of_hdr HP.out (fun mv' t' h' => ⟨t, by
          have e : mv' = mv := by
            have := h'.1.symm.trans HH.out.1
            simp at this
            exact this.1
          rw [e]; exact r1⟩) (turn_L M) ⟨w2, HB2.out, r2⟩⟩
      · rw [if_neg hT]
        refine ⟨?_, R1.out hT⟩
        rcases Int.lt_or_gt_of_ne hT with h | h
        · exact ret_int (by rw [turnS_neg h])
        · exact ret_int (by rw [turnS_pos h])
  · have HA := Lib.hid (show addS s.data.toList u.data.toList M = (adm, M) by unfold addS; rw [hus, ← hadm, if_neg ha])
    have ha2 : (adm == 0) = false := by rw [beq_eq_false_iff_ne]; exact ha
    clear hadm
    go_enter Tryz.func35, Tryz.ntmps35
    go_wp2_with (fail)
    refine (HAD.out _ B2.out).mono ?_
    rintro e w2 ⟨rfl, hb1⟩
    have HB2 := Lib.hid (B2.out.trans hb1)
    clear hb1
    have ha3 : (adm != 0) = true := by rw [bne_iff_ne]; exact ha
    go_wp2_with (fail)
    go_ret
    rw [HA.out]
    exact ⟨rfl, HP.out.to HB2.out⟩
end Go.Proofs.YtfbiinnenlgkfaaGreatDoor
/- file's crashed: what a crash leaves of one file. -/
namespace Go.Proofs.YtfbiinnenlgkfaaGreatDoor
open Go.RowKit Go.Deep Go.Maps

end Go.Proofs.YtfbiinnenlgkfaaGreatDoor
/- file's Crash. -/
namespace Go.Proofs.YtfbiinnenlgkfaaGreatDoor
open Go.RowKit Go.Deep Go.Maps

theorem IntsAt.keep {w x : World} {p : Option Addr} {L : List Int} {G : List Nat} (h : IntsAt w p L) (hk : Keep G w x) (hb : ∀ a, p = some a → L ≠ [] → a.block ∉ G) : IntsAt x p L := by
  intro i hi
  obtain ⟨a, ha, hc⟩ := h i hi
  exact ⟨a, ha, hk.cell hc (by rw [add_block]; exact hb a ha (by rintro rfl; simp at hi))⟩
end Go.Proofs.YtfbiinnenlgkfaaGreatDoor
/- What stays true of files whatever is done. -/
namespace Go.Proofs.YtfbiinnenlgkfaaGreatDoor
open Go.RowKit Go.Deep Go.Maps

structure RS.ok (M : RS) : Prop where
  srt : Srt M.L
  len : M.L.length ≤ 60
  room : 0 ≤ M.room ∧ M.room ≤ 10000000
  fits : (bytesN M.L : Int) ≤ M.room
  turns : -1 ≤ M.turns ∧ M.turns ≤ 9223372036854775807
  each : ∀ x ∈ M.L, nameB x.name = true ∧ x.safe ≤ x.bytes.length
theorem new_ok (room : Int) (h : 0 ≤ room ∧ room ≤ 10000000) : (newS room).ok :=
  ⟨List.Pairwise.nil, by simp [newS], h, by simp [newS, bytesN]; exact h.1, by simp [newS], fun x hx => by cases hx⟩
theorem RS.ok.files {M : RS} (h : M.ok) {L' : List FI} (h1 : Srt L') (h2 : L'.length ≤ 60) (h3 : (bytesN L' : Int) ≤ M.room) (h4 : ∀ x ∈ L', nameB x.name = true ∧ x.safe ≤ x.bytes.length) : RS.ok { M with L := L' } := ⟨h1, h2, h.room, h3, h.turns, h4⟩
theorem turn_ok {M : RS} (h : M.ok) : (turnS M).2.ok := by
  obtain ⟨h1, h2, h3, h4, h5, h6⟩ := h
  unfold turnS
  split
  · exact ⟨h1, h2, h3, h4, h5, h6⟩
  · split
    · exact ⟨h1, h2, h3, h4, by simp only []; omega, h6⟩
    · exact ⟨h1, h2, h3, h4, h5, h6⟩
theorem turn_room (M : RS) : (turnS M).2.room = M.room := by unfold turnS; split; rfl; split <;> rfl
theorem chg_ok {M : RS} (h : M.ok) {L' : List FI} (h1 : Srt L') (h2 : L'.length ≤ 60) (h3 : (bytesN L' : Int) ≤ M.room) (h4 : ∀ x ∈ L', nameB x.name = true ∧ x.safe ≤ x.bytes.length) : (chgS M L').2.ok := by
  unfold chgS
  split
  · exact turn_ok h
  · exact (turn_ok h).files h1 h2 (by rw [turn_room]; exact h3) h4
theorem name_len {nm : List UInt8} (h : nameB nm = true) : nm.length ≤ 24 := by
  unfold nameB at h
  simp at h
  exact h.2.2
theorem ins_old_ok {M : RS} (h : M.ok) {nm : List UInt8} {y x : FI} (hy : getF nm M.L = some y) (hn : x.name = y.name) (hb : x.bytes.length ≤ y.bytes.length) (hs : x.safe ≤ x.bytes.length) : (chgS M (insS x M.L)).2.ok := by
  have hg := getF_of_mem h.srt (getF_mem hy)
  refine chg_ok h (srt_ins x h.srt) ?_ ?_ ?_
  · rw [len_ins x h.srt, hn, hg]; exact h.len
  · have := bytes_ins x h.srt
    rw [hn, hg] at this
    simp only [szO] at this
    have := h.fits
    omega
  · intro z hz
    rcases mem_ins hz with rfl | hz
    · exact ⟨by rw [hn]; exact (h.each y (getF_mem hy)).1, hs⟩
    · exact h.each z hz
theorem adm_zero {nm : List UInt8} {k : Nat} {M : RS} (h : admS nm k M = 0) : M.gone = false ∧ nameB nm = true ∧ ¬ ((getF nm M.L).isSome = false ∧ 60 ≤ M.L.length) ∧ ¬ M.room < (bytesN M.L : Int) + k := by
  unfold admS at h
  split at h
  · cases h
  · rename_i hg
    split at h
    · cases h
    · rename_i hn
      split at h
      · cases h
      · rename_i hm
        split at h
        · cases h
        · rename_i hf
          exact ⟨by simpa using hg, by simpa using hn, hm, hf⟩
theorem addF_len (nm s : List UInt8) (L : List FI) : (addF nm s L).bytes.length = szO (getF nm L) + s.length := by
  unfold addF szO
  cases getF nm L with
  | none => simp
  | some y => simp
theorem addF_safe {nm s : List UInt8} {L : List FI} (h : ∀ x ∈ L, nameB x.name = true ∧ x.safe ≤ x.bytes.length) : (addF nm s L).safe ≤ (addF nm s L).bytes.length := by
  unfold addF
  cases hy : getF nm L with
  | none => simp
  | some y => have := (h y (getF_mem hy)).2; simp; omega
theorem add_ok {M : RS} (h : M.ok) (nm s : List UInt8) : (addS nm s M).2.ok := by
  unfold addS
  split
  · rename_i ha
    obtain ⟨h1, h2, h3, h4⟩ := adm_zero ha
    refine chg_ok h (srt_ins _ h.srt) ?_ ?_ ?_
    · rw [len_ins _ h.srt, addF_name]
      split
      · exact h.len
      · rename_i hc
        rw [Bool.not_eq_true] at hc
        have : ¬ 60 ≤ M.L.length := fun h60 => h3 ⟨hc, h60⟩
        omega
    · have := bytes_ins (addF nm s M.L) h.srt
      rw [addF_name, addF_len] at this
      omega
    · intro z hz
      rcases mem_ins hz with rfl | hz
      · exact ⟨by rw [addF_name]; exact h2, addF_safe h.each⟩
      · exact h.each z hz
  · exact h
theorem on_ok {M : RS} (h : M.ok) (nm : List UInt8) {k : FI → Int × RS} (hk : ∀ y, getF nm M.L = some y → (k y).2.ok) : (onS nm M k).2.ok := by
  unfold onS
  split
  · exact h
  · cases hy : getF nm M.L with
    | none => exact h
    | some y => exact hk y hy
theorem flush_ok {M : RS} (h : M.ok) (nm : List UInt8) : (flushS nm M).2.ok := on_ok h nm fun y hy => ins_old_ok h hy rfl (Nat.le_refl _) (Nat.le_refl _)
theorem cut_ok {M : RS} (h : M.ok) (nm : List UInt8) (n : Int) : (cutS nm n M).2.ok := on_ok h nm fun y hy => by
  split
  · exact h
  · rename_i hn
    refine ins_old_ok h hy rfl (by simp; omega) ?_
    have : (y.bytes.take n.toNat).length = n.toNat := by rw [List.length_take]; omega
    show min y.safe n.toNat ≤ (y.bytes.take n.toNat).length
    omega
theorem out_files {M : RS} (h : M.ok) (nm : List UInt8) : Srt (outS nm M.L) ∧ (outS nm M.L).length ≤ M.L.length ∧ bytesN (outS nm M.L) ≤ bytesN M.L ∧ ∀ x ∈ outS nm M.L, nameB x.name = true ∧ x.safe ≤ x.bytes.length := by
  refine ⟨srt_out nm h.srt, ?_, ?_, fun x hx => h.each x (mem_out hx)⟩
  · rw [len_out nm h.srt]; split <;> omega
  · have := bytes_out nm h.srt; omega
theorem drop_ok {M : RS} (h : M.ok) (nm : List UInt8) : (dropS nm M).2.ok := on_ok h nm fun y hy => by
  obtain ⟨h1, h2, h3, h4⟩ := out_files h nm
  exact chg_ok h h1 (Nat.le_trans h2 h.len) (by have := h.fits; omega) h4
def AV.small (a : AV) : Bool := decide (a.data.size ≤ 500) && decide (a.name.size ≤ 100) && decide (a.to.size ≤ 100) && decide (a.left.L.length ≤ 80) && decide (a.spoil.L.length ≤ 80)
end Go.Proofs.YtfbiinnenlgkfaaGreatDoor
/- moultlaw6's pick, small, does. -/
namespace Go.Proofs.YtfbiinnenlgkfaaGreatDoor
open Go.RowKit Go.Deep Go.Maps

structure ArgOut (F : List Nat) (a : AV) : Prop where
  left : ∀ d, a.left.p = some d → a.left.L ≠ [] → d.block ∉ F
  spoil : ∀ d, a.spoil.p = some d → a.spoil.L ≠ [] → d.block ∉ F
theorem each_ok {M : RS} (h : M.ok) : ∀ x ∈ M.L, x.bytes.length ≤ 1000000000 ∧ x.safe ≤ x.bytes.length ∧ x.name.length ≤ 1000 := fun x hx =>
  ⟨Nat.le_trans (bytes_mem hx) (by have := h.fits; have := h.room; omega), (h.each x hx).2, Nat.le_trans (name_len (h.each x hx).1) (by omega)⟩
theorem ProgTo.before {n₀ : Nat} {w y x : World} {b : Nat} {M : RS} {F : List Nat} (h : ProgTo n₀ y x b M F) (hb : Bel w y) : ProgTo n₀ w x b M F := by
  obtain ⟨G, h1, h2, h3⟩ := h
  exact ⟨G, h1, (Keep.of_bel hb F).trans h2 (fun x hx => Or.inl hx), fun k hk => (h3 k hk).imp id (fun h => Nat.le_trans hb.size h)⟩
end Go.Proofs.YtfbiinnenlgkfaaGreatDoor
/- One file system as a call's own: each of its calls takes it from what it is to what the chapter says. -/
namespace Go.Proofs.YtfbiinnenlgkfaaGreatDoor
open Go.RowKit Go.Deep Go.Maps

def St (w₀ x : World) (b : Nat) (M : RS) : Prop := (∃ F, ProgAt w₀.heap.size x b M F) ∧ Bel w₀ x ∧ M.ok
section
variable {w₀ x y : World} {b : Nat} {M M' : RS} {F : List Nat}
theorem St.bel (h : St w₀ x b M) (hb : Bel x y) : St w₀ y b M := by
  obtain ⟨⟨F, h1⟩, h2, h3⟩ := h
  exact ⟨⟨F, h1.bel hb⟩, h2.trans hb, h3⟩
theorem St.low (h : St w₀ x b M) : Bel w₀ x := h.2.1
theorem St.good (h : St w₀ x b M) : M.ok := h.2.2
theorem good_len (h : M.ok) : M.L.length ≤ 1000 := Nat.le_trans h.len (by omega)
theorem good_bytes (h : M.ok) : bytesN M.L ≤ 1000000000 := by have := h.fits; have := h.room; omega
end
end Go.Proofs.YtfbiinnenlgkfaaGreatDoor
/- Of acts and files: what serves where acts are done one by one. -/
namespace Go.Proofs.YtfbiinnenlgkfaaGreatDoor
open Go.RowKit Go.Deep Go.Maps

end Go.Proofs.YtfbiinnenlgkfaaGreatDoor
/- moultref6's Flush, Cut, Drop, Move, Add against the same operations as the program's. -/
namespace Go.Proofs.YtfbiinnenlgkfaaGreatDoor
open Go.RowKit Go.Deep Go.Maps

def RefP (n₀ : Nat) (w : World) (b : Nat) (M : RS) (F : List Nat) : Prop := ∃ v, RefAt n₀ w b M v ∧ b ∈ F ∧ (∀ k, v.ownBlock = some k → k ∈ F) ∧ ∀ k ∈ F, n₀ ≤ k ∧ k < w.heap.size
def RefTo (n₀ : Nat) (w x : World) (b : Nat) (M : RS) (F : List Nat) : Prop := ∃ G, RefP n₀ x b M G ∧ Keep F w x ∧ ∀ k ∈ G, k ∈ F ∨ w.heap.size ≤ k
section
variable {n₀ : Nat} {w x y : World} {b : Nat} {M M' : RS} {F : List Nat} {v v' : Value}
theorem own_lt (h : RefAt n₀ w b M v) : ∀ k, v.ownBlock = some k → n₀ ≤ k ∧ k < w.heap.size := h.own.lt
end
theorem RefAt.far {n₀ : Nat} {w x : World} {b B i : Nat} {M M' : RS} {v : Value} (h : RefAt n₀ w b M v) (h2 : RefAt n₀ x b M' v) (hB : w.heap.size ≤ B) (u : Value) : RefAt n₀ (x.setCell ⟨B, i, none⟩ u) b M' v :=
  h2.keep (keep_set x B i u) (by have := h.lt; rw [List.mem_singleton]; omega) (fun k hk => by have := (own_lt h k hk).2; rw [List.mem_singleton]; omega)
end Go.Proofs.YtfbiinnenlgkfaaGreatDoor
/- moultref6's Drop, Cut, Move. -/
namespace Go.Proofs.YtfbiinnenlgkfaaGreatDoor
open Go.RowKit Go.Deep Go.Maps

end Go.Proofs.YtfbiinnenlgkfaaGreatDoor
/- moultref6's Add. -/
namespace Go.Proofs.YtfbiinnenlgkfaaGreatDoor
open Go.RowKit Go.Deep Go.Maps

end Go.Proofs.YtfbiinnenlgkfaaGreatDoor
/- moultref6's Crash: what a store into the row of files makes of it. -/
namespace Go.Proofs.YtfbiinnenlgkfaaGreatDoor
open Go.RowKit Go.Deep Go.Maps

end Go.Proofs.YtfbiinnenlgkfaaGreatDoor
