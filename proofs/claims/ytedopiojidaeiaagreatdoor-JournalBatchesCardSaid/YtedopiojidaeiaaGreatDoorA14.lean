/- FFind, FQuery, laid together. -/
import Derived.Test.YtedopiojidaeiaaGreatDoorA12
import Derived.Test.YtedopiojidaeiaaGreatDoorA13
/- file's find, Get, Used, Names. -/
set_option linter.unusedSimpArgs false
set_option linter.unusedVariables false
namespace Go.Proofs.YtedopiojidaeiaaGreatDoor
open Go.RowKit Go.Deep Go.Maps

section
variable {n₀ : Nat} {w : World} {mb : Nat} {D : DataW Value} {V : List UInt8 → Value} {L : List FI} {e : Option (List UInt8)} {mv : Value} {F : List Nat}
theorem rv_held {v : Value} {z : DataW Value} {ps : List MemPlace} (h : RV v = some (z, ps)) : z = .held v := by
  simp only [RV, Option.some.injEq, Prod.mk.injEq] at h
  exact h.1.symm
theorem run_look_some (h : FilesV n₀ w mb D V L e) (s : ByteArray) (hs : s.size ≤ maxLen) {y : FI} (hy : getF s.data.toList L = some y) (c : Bool) :
    (Instr.lookup 90 (.map (some mb)) (.string s) c).run Tryz.prog w = .ok (if c then .tuple #[conV (V s.data.toList) y.safe, .bool true] else conV (V s.data.toList) y.safe) w := by
  have hh : Maps.has D (.string s.data.toList) = true := by rw [h.has, hy]; rfl
  cases c with
  | true =>
    obtain ⟨v, ps, hr, hv⟩ := h.own.look_ok keyLaw Tryz.underlying90 (zeroCon w) (zd := .held conZ) (zp := []) rfl (key_is s hs)
    rw [h.at_some hy, ] at hv
    have := rv_held hv
    simp only [DataW.held.injEq] at this
    rw [hr, hh, ← this]
    rfl
  | false =>
    obtain ⟨v, ps, hr, hv⟩ := h.own.lookup keyLaw Tryz.underlying90 (zeroCon w) (zd := .held conZ) (zp := []) rfl (key_is s hs)
    rw [h.at_some hy, ] at hv
    have := rv_held hv
    simp only [DataW.held.injEq] at this
    rw [hr, ← this]
    rfl
theorem run_look_none (h : FilesAt n₀ w mv L F) (s : ByteArray) (hs : s.size ≤ maxLen) (hy : getF s.data.toList L = none) (c : Bool) :
    (Instr.lookup 90 mv (.string s) c).run Tryz.prog w = .ok (if c then .tuple #[conZ, .bool false] else conZ) w := by
  rcases h with ⟨rfl, rfl⟩ | ⟨mb, D, V, rfl, h, _⟩
  · exact Maps.look_nil c keyLaw Tryz.underlying90 (zeroCon w) (key_is s hs)
  have hh : Maps.has D (.string s.data.toList) = false := by rw [h.has, hy]; rfl
  cases c with
  | true =>
    obtain ⟨v, ps, hr, hv⟩ := h.own.look_ok keyLaw Tryz.underlying90 (zeroCon w) (zd := .held conZ) (zp := []) rfl (key_is s hs)
    rw [h.at_none hy, ] at hv
    have := rv_held hv
    simp only [DataW.held.injEq] at this
    rw [hr, hh, ← this]
    rfl
  | false =>
    obtain ⟨v, ps, hr, hv⟩ := h.own.lookup keyLaw Tryz.underlying90 (zeroCon w) (zd := .held conZ) (zp := []) rfl (key_is s hs)
    rw [h.at_none hy, ] at hv
    have := rv_held hv
    simp only [DataW.held.injEq] at this
    rw [hr, ← this]
    rfl
end
theorem wpList_look {w : World} {ops : Array Oper} {rest : List Oper} {o : Oper} {a : Act} {Q : Exit → Act → World → Prop} {c : Bool} {mv kv r : Value} (hrun : (Instr.lookup 90 mv kv c).run Tryz.prog w = .ok r w)
    (hg : o.guard = none) (m x : Operand) (hop : o.op = Op.lookup 90 m x c) (hm : a.eval m = mv) (hx : a.eval x = kv) (hK : wpList Tryz.prog ops Q rest (a.put o.dst r) w) : wpList Tryz.prog ops Q (o :: rest) a w := by
  refine wpList_plain hg fun K' hK' => ?_
  unfold Oper.wp
  simp [execOp, hop, hm, hx, hrun, Result.andThen]
  exact hK' _ _ hK

set_option maxHeartbeats 2000000 in
theorem find_gone (n₀ : Nat) (w : World) (b : Nat) (M : RS) (F : List Nat) (s : ByteArray) (h : ProgAt n₀ w b M F) (hgone : M.gone = true) :
    Calls Tryz.prog 91 #[.pointer (some ⟨b, 0, none⟩), .string s] w fun e w' => e = .returned (.tuple #[conZ, .int .i64 7]) ∧ Bel w w' := by
  obtain ⟨⟨mv, t, hb, -⟩, -⟩ := h
  have c4 : w.cell? ⟨b, 4, none⟩ = some (.bool true) := by simp [World.cell?, hb, hgone]
  clear hb hgone
  unfold conZ
  go_enter Tryz.func91, Tryz.ntmps91
  go_wp2_with (fail)
  exact bodyPost_ret (v := .tuple #[.agg #[.slice none 0 0, .int .i64 0], .int .i64 7]) (by simp [results, Tryz.results91, go_sem]) rfl ⟨rfl, (Bel.refl w).alloc _⟩
set_option maxHeartbeats 2000000 in
theorem find_none (n₀ : Nat) (w : World) (b : Nat) (M : RS) (F : List Nat) (s : ByteArray) (h : ProgAt n₀ w b M F) (hgone : M.gone = false) (hs : s.size ≤ maxLen) (hy : getF s.data.toList M.L = none) :
    Calls Tryz.prog 91 #[.pointer (some ⟨b, 0, none⟩), .string s] w fun e w' => e = .returned (.tuple #[conZ, .int .i64 4]) ∧ Bel w w' := by
  obtain ⟨⟨mv, t, hb, _, _, hf⟩, -⟩ := h
  have c4 : w.cell? ⟨b, 4, none⟩ = some (.bool false) := by simp [World.cell?, hb, hgone]
  have c1 : w.cell? ⟨b, 1, none⟩ = some mv := by simp [World.cell?, hb]
  have HF := Lib.hid hf
  have HY := Lib.hid hy
  clear hb hgone hf hy
  unfold conZ
  go_enter Tryz.func91, Tryz.ntmps91
  go_wp2_with (at_lookup; refine wpList_look (run_look_none (HF.out.bel ((Bel.refl w).alloc _)) s hs HY.out true) rfl _ _ rfl rfl rfl ?_; unfold conZ)
  exact bodyPost_ret (v := .tuple #[.agg #[.slice none 0 0, .int .i64 0], .int .i64 4]) (by simp [results, Tryz.results91, go_sem]) rfl ⟨rfl, ((Bel.refl w).alloc _).alloc _⟩
set_option maxHeartbeats 2000000 in
theorem find_some (n₀ : Nat) (w : World) (b : Nat) (M : RS) (mb : Nat) (t : Int) (D : DataW Value) (V : List UInt8 → Value) (s : ByteArray) (y : FI)
    (hb : w.heap[b]? = some (.cells #[.int .i64 M.room, .map (some mb), .bool (decide (0 ≤ M.turns)), .int .i64 t, .bool M.gone] 92 (0, 0))) (hV : FilesV n₀ w mb D V M.L none)
    (hgone : M.gone = false) (hs : s.size ≤ maxLen) (hy : getF s.data.toList M.L = some y) :
    Calls Tryz.prog 91 #[.pointer (some ⟨b, 0, none⟩), .string s] w fun e w' => e = .returned (.tuple #[conV (V s.data.toList) y.safe, .int .i64 0]) ∧ Bel w w' := by
  have c4 : w.cell? ⟨b, 4, none⟩ = some (.bool false) := by simp [World.cell?, hb, hgone]
  have c1 : w.cell? ⟨b, 1, none⟩ = some (.map (some mb)) := by simp [World.cell?, hb]
  have hv := hV.val y (getF_mem hy) (by simp)
  rw [getF_name hy] at hv
  obtain ⟨p, cap, hp, -⟩ := own_len hv
  have hr : ∀ x, Bel w x → (Instr.lookup 90 (.map (some mb)) (.string s) true).run Tryz.prog x = .ok (.tuple #[.agg #[.slice p y.bytes.length cap, .int .i64 y.safe], .bool true]) x := fun x hx => by
    have := run_look_some (hV.bel hx) s hs hy true
    rw [this, hp]; rfl
  have HR := Lib.hid hr
  rw [hp]
  unfold conV
  have hbl := block_lt_of_cell c4
  clear hb hgone hy hV hv hr hp
  go_enter Tryz.func91, Tryz.ntmps91
  go_wp2_with (at_lookup; refine wpList_look (HR.out _ ((Bel.refl w).alloc _)) rfl _ _ rfl rfl rfl ?_)
  exact bodyPost_ret (v := .tuple #[.agg #[.slice p y.bytes.length cap, .int .i64 y.safe], .int .i64 0]) (by simp [results, Tryz.results91, go_sem]) rfl ⟨rfl, ((Bel.refl w).alloc _).alloc _⟩
end Go.Proofs.YtedopiojidaeiaaGreatDoor
/- file's Get, Used, Names. -/
set_option linter.unusedSimpArgs false
set_option linter.unusedVariables false
namespace Go.Proofs.YtedopiojidaeiaaGreatDoor
open Go.RowKit Go.Deep Go.Maps

/-- The bytes of a name, or the error. -/
def getS (nm : List UInt8) (M : RS) : List UInt8 × Int := if M.gone then ([], 7) else match getF nm M.L with
  | some y => (y.bytes, 0)
  | none => ([], 4)
theorem conv_none (x : World) : (convert 95 9 (.slice none 0 0)).run Tryz.prog x = .ok (.string ⟨#[]⟩) x := own_string (Own.nil 0 x)
set_option maxHeartbeats 2000000 in
theorem pget_any (n₀ : Nat) (w : World) (b : Nat) (M : RS) (F : List Nat) (s : ByteArray) (h : ProgAt n₀ w b M F) (hs : s.size ≤ maxLen) :
    Calls Tryz.prog 49 #[.pointer (some ⟨b, 0, none⟩), .string s] w fun e w' =>
      e = .returned (.tuple #[.string ⟨(getS s.data.toList M).1.toArray⟩, .int .i64 (getS s.data.toList M).2]) ∧ Bel w w' := by
  have HP := Lib.hid h
  obtain ⟨⟨mv, t, hb, _, _, hf⟩, -⟩ := h
  cases hg : M.gone with
  | true =>
    have HG := Lib.hid (show getS s.data.toList M = ([], 7) by unfold getS; rw [hg]; rfl)
    have hc := conv_none
    have HG1 := Lib.hid hg
    clear hb hf hg
    go_enter Tryz.func49, Tryz.ntmps49
    go_wp2_with (fail)
    refine (find_gone n₀ _ b M F s HP.out HG1.out).mono ?_
    rintro e w1 ⟨rfl, hbl⟩
    have HB := Lib.hid hbl
    clear hbl
    unfold conZ
    go_wp2_with (fail)
    go_ret2
    exact ⟨by rw [HG.out]; rfl, HB.out.alloc _⟩
  | false =>
    cases hy : getF s.data.toList M.L with
    | none =>
      have HG := Lib.hid (show getS s.data.toList M = ([], 4) by unfold getS; rw [hg, hy]; rfl)
      have hc := conv_none
      have HG1 := Lib.hid hg
      have HY := Lib.hid hy
      clear hb hf hg hy
      go_enter Tryz.func49, Tryz.ntmps49
      go_wp2_with (fail)
      refine (find_none n₀ _ b M F s HP.out HG1.out hs HY.out).mono ?_
      rintro e w1 ⟨rfl, hbl⟩
      have HB := Lib.hid hbl
      clear hbl
      unfold conZ
      go_wp2_with (fail)
      go_ret2
      exact ⟨by rw [HG.out]; rfl, HB.out.alloc _⟩
    | some y =>
      rcases hf with ⟨_, hL⟩ | ⟨mb, D, V, rfl, hV, _⟩
      · rw [hL] at hy; cases hy
      have HG := Lib.hid (show getS s.data.toList M = (y.bytes, 0) by unfold getS; rw [hg, hy]; rfl)
      have HC := Lib.hid (find_some n₀ w b M mb t D V s y hb hV hg hs hy)
      have hv := hV.val y (getF_mem hy) (by simp)
      rw [getF_name hy] at hv
      obtain ⟨p, cap, hp, -⟩ := own_len hv
      rw [hp] at hv HC
      have HV := Lib.hid hv
      unfold conV at HC
      clear hb hV hg hy hp hv
      go_enter Tryz.func49, Tryz.ntmps49
      go_wp2_with (fail)
      refine HC.out.mono ?_
      rintro e w1 ⟨rfl, hbl⟩
      have HB := Lib.hid hbl
      clear hbl
      have hc : ∀ o, (convert 95 9 (.slice p y.bytes.length cap)).run Tryz.prog (w1.alloc o) = .ok (.string ⟨y.bytes.toArray⟩) (w1.alloc o) := fun o => own_string (HV.out.bel (HB.out.alloc o))
      go_wp2_with (fail)
      go_ret2
      exact ⟨by rw [HG.out]; rfl, HB.out.alloc _⟩

/-- The bytes of the files that have come. -/
def usedL (left : Lit → Bool) : List FI → Nat
  | [] => 0
  | x :: L => (if left (.string x.name) = true then 0 else x.bytes.length) + usedL left L
theorem used_start {left : Lit → Bool} {L : List FI} (h : ∀ x ∈ L, left (.string x.name) = true) : usedL left L = 0 := by
  induction L with
  | nil => rfl
  | cons x L ih => rw [usedL, if_pos (h x (by simp)), ih (fun y hy => h y (by simp [hy]))]
theorem used_end {left : Lit → Bool} (h : ∀ k, left k = false) (L : List FI) : usedL left L = bytesN L := by
  induction L with
  | nil => rfl
  | cons x L ih => rw [usedL, bytesN, ih, h]; rfl
theorem used_le (left : Lit → Bool) (L : List FI) : usedL left L ≤ bytesN L := by
  induction L with
  | nil => exact Nat.le_refl _
  | cons x L ih => rw [usedL, bytesN]; split <;> omega
theorem used_same {left left' : Lit → Bool} {L : List FI} (h : ∀ x ∈ L, left (.string x.name) = left' (.string x.name)) : usedL left L = usedL left' L := by
  induction L with
  | nil => rfl
  | cons x L ih => rw [usedL, usedL, h x (by simp), ih (fun y hy => h y (by simp [hy]))]
theorem used_step {left : Lit → Bool} {L : List FI} (hs : Srt L) {y : FI} (hy : y ∈ L) (hl : left (.string y.name) = true) :
    usedL (fun z => left z && !z.sameKey (.string y.name)) L = usedL left L + y.bytes.length := by
  induction L with
  | nil => cases hy
  | cons x L ih =>
    rw [srt_cons] at hs
    rw [usedL, usedL]
    rcases List.mem_cons.1 hy with rfl | hy'
    · have e : usedL (fun z => left z && !z.sameKey (.string y.name)) L = usedL left L := used_same fun z hz => by
        have hne : z.name ≠ y.name := fun e => bl_ne (hs.1 z hz) e.symm
        simp [Lit.sameKey, hne]
      rw [e, hl]
      simp [Lit.sameKey]
      omega
    · have hne : x.name ≠ y.name := bl_ne (hs.1 y hy')
      rw [ih hs.2 hy']
      simp [Lit.sameKey, hne]
      omega
/-- The step of a range over the files' map. -/
theorem wpList_next_files {n₀ : Nat} {w : World} {mb : Nat} {D : DataW Value} {V : List UInt8 → Value} {L : List FI} {w₀ : World} (hV : FilesV n₀ w₀ mb D V L none) {ops : Array Oper} {rest : List Oper} {o : Oper} {a : Act} {Q : Exit → Act → World → Prop}
    (hg : o.guard = none) (it : Operand) (hop : o.op = Op.next it false) {r n : Nat} {left : Lit → Bool} {cnt : Nat} (hit : a.eval it = .pointer (some ⟨r, 0, none⟩)) (h : w.ranges Tryz.prog 9 RV mb r n D left cnt)
    (hDone : (∀ kl, left kl = false) → wpList Tryz.prog ops Q rest (a.put o.dst (.tuple #[.bool false])) w)
    (hMore : ∀ (y : FI) (p : Option Addr) (cap : Nat) (w' : World) (cnt' : Nat), y ∈ L → left (.string y.name) = true → w'.ranges Tryz.prog 9 RV mb r n D (fun z => left z && !z.sameKey (.string y.name)) cnt' → cnt' < cnt → w.grownBy w' (some r) →
      (Instr.entry (.pointer (some ⟨r, 0, none⟩))).run Tryz.prog w' = .ok (.tuple #[.string ⟨y.name.toArray⟩, .agg #[.slice p y.bytes.length cap, .int .i64 y.safe]]) w' →
      wpList Tryz.prog ops Q rest (a.put o.dst (.tuple #[.bool true, .string ⟨y.name.toArray⟩, .agg #[.slice p y.bytes.length cap, .int .i64 y.safe]])) w') :
    wpList Tryz.prog ops Q (o :: rest) a w := by
  refine wpList_next_ranges w hg it hop 9 keyLaw RV encStr id (fun key kl hk => by obtain ⟨x, hx, _⟩ := Maps.keyOf_str Tryz.underlying9 hk; exact ⟨x, hx⟩) (fun v y hv => ⟨v, rfl⟩) mb r n D left cnt hit h (fun _ hl => hDone hl) ?_
  intro x c kl y w' cnt' hkey hlk hv hat hrg hlt hgr hsz hen
  obtain ⟨x', ex, rfl, _⟩ := Maps.keyOf_str Tryz.underlying9 hkey
  obtain rfl : x = x' := encStr_inj ex
  have hh := Maps.has_true_of_atKey hat
  rw [hV.has] at hh
  obtain ⟨f, hf⟩ := Option.isSome_iff_exists.1 hh
  have hc := hat (.held conZ)
  rw [hV.at_some hf] at hc
  obtain ⟨y1, y2⟩ := y
  have := rv_held hv
  rw [this] at hc
  simp only [DataW.held.injEq, id_eq] at hc
  obtain rfl := getF_name hf
  have ho := hV.val f (getF_mem hf) (by simp)
  obtain ⟨p, cap, hp, -⟩ := own_len ho
  rw [hp] at hc
  rw [← hc] at hen ⊢
  exact hMore f p cap w' cnt' (getF_mem hf) hlk hrg hlt hgr hen
set_option maxHeartbeats 2000000 in
theorem pused_any (n₀ : Nat) (w : World) (b : Nat) (M : RS) (F : List Nat) (h : ProgAt n₀ w b M F) (hs : Srt M.L) (hB : bytesN M.L ≤ 1000000000) :
    Calls Tryz.prog 47 #[.pointer (some ⟨b, 0, none⟩)] w fun e w' => e = .returned (.int .i64 (bytesN M.L : Nat)) ∧ Bel w w' := by
  obtain ⟨⟨mv, t, hb, _, _, hf⟩, -⟩ := h
  have c1 : w.cell? ⟨b, 1, none⟩ = some mv := by simp [World.cell?, hb]
  clear hb
  rcases hf with ⟨rfl, hL⟩ | ⟨mb, D, V, rfl, hV, _⟩
  · have HL := Lib.hid (show bytesN M.L = 0 by rw [hL]; rfl)
    clear hL
    have hrg := run_range_nilMap (P := Tryz.prog) w 90 9 97 Tryz.underlying90
    have hnx : ∀ ty, (Instr.next (.pointer (some ⟨w.heap.size, 0, none⟩)) false ty).run Tryz.prog (w.alloc (.mapIter none 0 #[] 0)) = _ := fun ty => run_next_nilMap w ty 0 0 #[]
    go_enter Tryz.func47, Tryz.ntmps47
    go_wp2
    refine wp_loop_rounds 1 ?_
    rw [rounds_succ]
    go_wp2
    go_ret
    exact ⟨by rw [HL.out]; rfl, (Bel.refl w).alloc _⟩
  · have HV := Lib.hid hV
    have HS := Lib.hid hs
    have hown := Lib.hid hV.own
    have HH := Lib.hid (show ∀ x ∈ M.L, Maps.has D (.string x.name) = true from fun x hx => by rw [hV.has, getF_of_mem hs hx]; rfl)
    clear hV hs
    go_enter Tryz.func47, Tryz.ntmps47
    go_wp2_with (first
      | (at_range; refine wpList_range_own _ rfl _ 90 rfl 9 97 keyLaw Tryz.underlying90 RV mb _ D rfl hown.out ?_; intro w0 hrg0 hg0 hs0)
      | go_in)
    go_frame
    have HG0 := Lib.hid ((Keep.refl [] w).grown hg0 (fun r hr => by cases hr))
    have HR0 := Lib.hid hrg0
    clear hs0 hg0 hrg0
    go_loopw [3] (fun n x => ∃ (left : Lit → Bool) (cnt : Nat), x.ranges Tryz.prog 9 RV mb w.heap.size M.L.length D left cnt ∧ n = .int .i64 (usedL left M.L : Nat) ∧ Bel w x) (fun _ x => x.rangeLeft mb w.heap.size)
    case atStart => exact ⟨_, _, HR0.out, by rw [used_start HH.out]; rfl, HG0.out.bel (by simp)⟩
    case round =>
      obtain ⟨left, cnt, hrg, rfl, hbel⟩ := hrel
      have HRG := Lib.hid hrg
      have HB := Lib.hid hbel
      have HLE := Lib.hid (used_end (left := left) · M.L)
      clear hrg hbel
      go_wp2_with (first
        | (at_next; refine wpList_next_files HV.out rfl _ rfl rfl HRG.out ?_ ?_)
        | go_in)
      · intro hl0
        go_wp2
        go_ret
        exact ⟨ret_int (by rw [HLE.out hl0]), HB.out⟩
      · intro y p cap w1 cnt1 hy hlx hrg1 hlt hg1 hen
        have HRG1 := Lib.hid hrg1
        have HB1 := Lib.hid (HB.out.trans_below ((Below.refl _ _).grown hg1 (HRG.out.lt |> fun _ => HB.out.size) (fun k hk => by cases hk; exact Nat.le_refl _) |>.mono (Nat.le_refl _)))
        have HST := Lib.hid (used_step HS.out hy hlx)
        have hle := used_le (fun z => left z && !z.sameKey (.string y.name)) M.L
        rw [HST.out] at hle
        have HLT := Lib.hid hlt
        clear hrg1 hy hlx hg1 hlt
        generalize usedL left M.L = z at *
        go_wp2_with (fail)
        go_roundw
        case rel => exact ⟨_, cnt1, HRG1.out.alloc _, by rw [HST.out]; go_num, HB1.out.alloc _⟩
        case measure => rw [(HRG1.out.alloc _).left_eq, HRG.out.left_eq]; exact HLT.out

def strEl : El (List UInt8) := ⟨9, 22, 1, fun l => [.string ⟨l.toArray⟩]⟩
theorem strOk : ElOk strEl 16 := ⟨fun _ => rfl, fun a u hu => by simp [strEl] at hu; subst hu; rfl, by kernel_rfl, ⟨.string ⟨#[]⟩, by kernel_rfl, rfl⟩, by decide⟩
theorem str_all (L : List (List UInt8)) : strEl.all L = L.map encStr := by
  induction L with
  | nil => rfl
  | cons x L ih => simp only [El.all, List.flatMap_cons, List.map_cons] at *; rw [ih]; rfl
theorem names_sorted {L : List FI} (hs : Srt L) : (L.map (·.name)).Pairwise (fun a b => decide (a ≤ b) = true) := by
  rw [List.pairwise_map]
  refine hs.imp fun h => ?_
  rw [bytesLess_eq, decide_eq_true_eq] at h
  rw [decide_eq_true_eq]
  exact List.le_of_lt h
theorem names_nodup {L : List FI} (hs : Srt L) : (L.map (·.name)).Nodup := by
  rw [List.Nodup, List.pairwise_map]
  exact hs.imp fun h => bl_ne h
theorem names_of_perm {n₀ : Nat} {w : World} {mb : Nat} {D : DataW Value} {V : List UInt8 → Value} {L : List FI} (hV : FilesV n₀ w mb D V L none) (hs : Srt L) {ss : List (List UInt8)} (hp : ss.Perm (strKeys D)) :
    ss.mergeSort (fun x y => decide (x ≤ y)) = L.map (·.name) := by
  obtain ⟨es, hD, hpw, _⟩ := hV.own.entries keyLaw
  obtain ⟨es', hD', hko⟩ := hV.own.keysOf
  obtain rfl : es = es' := by rw [hD] at hD'; simpa using hD'
  have h1 : (L.map (·.name)).Perm (strKeys D) := by
    rw [hD]
    refine perm_strKeys hpw (fun p hp => by obtain ⟨v, hv⟩ := hko p hp; obtain ⟨x, _, hx, _⟩ := Maps.keyOf_str Tryz.underlying9 hv; exact ⟨x, hx⟩) (names_nodup hs) (fun x => ?_)
    rw [← hD, hV.has]
    constructor
    · intro hx
      obtain ⟨y, hy, rfl⟩ := List.mem_map.1 hx
      rw [getF_of_mem hs hy]; rfl
    · intro hx
      obtain ⟨y, hy⟩ := Option.isSome_iff_exists.1 hx
      exact List.mem_map.2 ⟨y, getF_mem hy, getF_name hy⟩
  rw [mergeSort_of_perm (hp.trans h1.symm)]
  exact List.mergeSort_of_pairwise (names_sorted hs)
set_option maxHeartbeats 2000000 in
theorem pnames_any (n₀ : Nat) (w : World) (b : Nat) (M : RS) (F : List Nat) (h : ProgAt n₀ w b M F) (hs : Srt M.L) (hL : M.L.length ≤ 1000) :
    Calls Tryz.prog 46 #[.pointer (some ⟨b, 0, none⟩)] w fun e w' => ∃ v, e = .returned v ∧ OwnG strEl w.heap.size w' v (M.L.map (·.name)) ∧ Bel w w' := by
  obtain ⟨⟨mv, t, hb, _, _, hf⟩, -⟩ := h
  have c1 : w.cell? ⟨b, 1, none⟩ = some mv := by simp [World.cell?, hb]
  clear hb
  rcases hf with ⟨rfl, hL0⟩ | ⟨mb, D, V, rfl, hV, _⟩
  · have HL := Lib.hid hL0
    clear hL0
    go_enter Tryz.func46, Tryz.ntmps46
    go_wp2_with (first
      | (go_at_call 90; refine (callsIn_wide.1 (Tryz.maps_Keys_90 _ _)).mono ?_; rintro e w' ⟨rfl, rfl⟩)
      | (go_at_call 89; refine (callsIn_wide.1 (Tryz.slices_Sorted_keys_nil_89_90 w)).mono ?_; rintro e w' ⟨v, ss, rfl, hS, hrow, hnil, hb⟩))
    go_ret
    have hv := hnil.2 hS
    refine ⟨v, rfl, ?_, ((Below.refl _ w).alloc (Nat.le_refl _) _).trans (hb.mono (by simp))⟩
    rw [HL.out, hv]
    exact OwnG.nil _ _ _
  · have HV := Lib.hid hV
    have HS := Lib.hid hs
    have hown := hV.own
    have hmax : Maps.size D ≤ maxLen := by rw [hV.size]; unfold maxLen; omega
    have hbytes : Maps.size D * 16 ≤ 140737488355328 := by rw [hV.size]; omega
    clear hV hs
    go_enter Tryz.func46, Tryz.ntmps46
    go_wp2_with (first
      | (go_at_call 90; refine (callsIn_wide.1 (Tryz.maps_Keys_90 _ _)).mono ?_; rintro e w' ⟨rfl, rfl⟩)
      | (go_at_call 89; refine (callsIn_wide.1 (Tryz.slices_Sorted_keys_89_90 mb _ D RV w hown hmax hbytes)).mono ?_; rintro e w' ⟨v, ss, rfl, hS, hrow, hnil, hb⟩))
    go_ret
    refine ⟨v, rfl, ?_, ((Below.refl _ w).alloc (Nat.le_refl _) _).trans (hb.mono (by simp))⟩
    rw [names_of_perm HV.out HS.out hS] at hrow
    have hlen : ss.length = (M.L.map (·.name)).length := by
      rw [← names_of_perm HV.out HS.out hS, List.length_mergeSort]
    rw [hlen] at hrow
    have h2 : OwnG strEl (w.alloc (.cells #[.map (some mb)] 90)).heap.size w' v (M.L.map (·.name)) := by
      unfold OwnG
      rw [str_all]
      exact hrow
    exact h2.low (by simp)
end Go.Proofs.YtedopiojidaeiaaGreatDoor
