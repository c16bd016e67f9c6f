/- moultref6's files: what lies in memory, and its small calls. -/
import Derived.Test.YtedopiojidaeiaaFoot
import Derived.Lib.Hide
set_option linter.unusedSimpArgs false
set_option linter.unusedVariables false
namespace Go.Proofs.Ytedopiojidaeiaa
open Go.RowKit Go.Deep

/-- A file: its name, its bytes, how many of them are flushed. -/
structure FI where
  name : List UInt8
  bytes : List UInt8
  safe : Nat
def fileEl : El FI := ⟨64, 50, 3, fun x => [.string ⟨x.name.toArray⟩, .string ⟨x.bytes.toArray⟩, .int .i64 x.safe]⟩
theorem fileOk : ElOk fileEl 40 := ⟨fun _ => rfl, fun a u hu => by simp [fileEl] at hu; rcases hu with rfl | rfl | rfl <;> rfl, by kernel_rfl, ⟨.agg #[.string ⟨#[]⟩, .string ⟨#[]⟩, .int .i64 0], by kernel_rfl, rfl⟩, by decide⟩
/-- Files, the room, the turns that are left, is the power gone? -/
structure RS where
  L : List FI
  room : Int
  turns : Int
  gone : Bool
/-- The reference's files lie at block b; F: its blocks. -/
structure RefAt (n₀ : Nat) (w : World) (b : Nat) (M : RS) (v : Value) : Prop where
  blk : w.heap[b]? = some (.cells #[v, .int .i64 M.room, .int .i64 M.turns, .bool M.gone] 52 (0, 0))
  own : OwnG fileEl n₀ w v M.L
  low : n₀ ≤ b
theorem RefAt.cells {n₀ : Nat} {w : World} {b : Nat} {M : RS} {v : Value} (h : RefAt n₀ w b M v) :
    w.cell? ⟨b, 0, none⟩ = some v ∧ w.cell? ⟨b, 1, none⟩ = some (.int .i64 M.room) ∧ w.cell? ⟨b, 2, none⟩ = some (.int .i64 M.turns) ∧ w.cell? ⟨b, 3, none⟩ = some (.bool M.gone) := by
  have := h.blk
  refine ⟨?_, ?_, ?_, ?_⟩ <;> simp [World.cell?, this]
theorem RefAt.frozen {n₀ : Nat} {w : World} {b : Nat} {M : RS} {v : Value} (h : RefAt n₀ w b M v) (i : Nat) : w.frozen? ⟨b, i, none⟩ = false := by
  simp [World.frozen?, h.blk]

theorem blk_set {w : World} {b : Nat} {arr : Array Value} {T : TypeId} (h : w.heap[b]? = some (.cells arr T (0, 0))) (i : Nat) (u : Value) :
    (w.setCell ⟨b, i, none⟩ u).heap[b]? = some (.cells (arr.setIfInBounds i u) T (0, 0)) := by
  obtain ⟨hlt, hk⟩ := Array.getElem?_eq_some_iff.1 h
  show (w.heap.modify b _)[b]? = _
  rw [Array.getElem?_eq_getElem (by rw [Array.size_modify]; exact hlt), Array.getElem_modify_self, hk]
  rfl
section
variable {n₀ : Nat} {w x : World} {b : Nat} {M : RS} {v : Value}
theorem RefAt.own_ne (h : RefAt n₀ w b M v) {L : List FI} {v' : Value} (ho : OwnG fileEl n₀ w v' L) : ∀ k, v'.ownBlock = some k → k ≠ b := by
  intro k hk e
  subst e
  rcases ho.2 with ⟨rfl, _⟩ | ⟨g, cap, cur, rfl, _, hgb, _⟩
  · simp [Value.ownBlock] at hk
  · obtain rfl : g = k := by simpa [Value.ownBlock] using hk
    have := h.blk.symm.trans hgb
    simp [fileEl] at this
theorem RefAt.lt (h : RefAt n₀ w b M v) : b < w.heap.size := (Array.getElem?_eq_some_iff.1 h.blk).1
theorem RefAt.keep {F : List Nat} (h : RefAt n₀ w b M v) (hk : Keep F w x) (hb : b ∉ F) (hv : ∀ k, v.ownBlock = some k → k ∉ F) : RefAt n₀ x b M v :=
  ⟨hk.at h.blk hb, h.own.keep hk hv, h.low⟩
theorem RefAt.bel (h : RefAt n₀ w b M v) (hk : Bel w x) : RefAt n₀ x b M v := h.keep (Keep.of_bel hk []) (by simp) (fun k _ => by simp)
theorem keep_set (w : World) (b i : Nat) (u : Value) : Keep [b] w (w.setCell ⟨b, i, none⟩ u) := (Keep.refl _ w).setCell (p := ⟨b, i, none⟩) (Or.inl (by simp)) u
theorem RefAt.put_gone (h : RefAt n₀ w b M v) (g : Bool) : RefAt n₀ (w.setCell ⟨b, 3, none⟩ (.bool g)) b { M with gone := g } v :=
  ⟨blk_set h.blk 3 _, h.own.keep (keep_set w b 3 _) (fun k hk => by simpa using h.own_ne h.own k hk), h.low⟩
theorem RefAt.put_turns (h : RefAt n₀ w b M v) (t : Int) : RefAt n₀ (w.setCell ⟨b, 2, none⟩ (.int .i64 t)) b { M with turns := t } v :=
  ⟨blk_set h.blk 2 _, h.own.keep (keep_set w b 2 _) (fun k hk => by simpa using h.own_ne h.own k hk), h.low⟩
theorem RefAt.put_files (h : RefAt n₀ w b M v) {v' : Value} {L' : List FI} (ho : OwnG fileEl n₀ w v' L') : RefAt n₀ (w.setCell ⟨b, 0, none⟩ v') b { M with L := L' } v' :=
  ⟨blk_set h.blk 0 _, ho.keep (keep_set w b 0 _) (fun k hk => by simpa using h.own_ne ho k hk), h.low⟩
end

/-- Where a name stands among files, or would. -/
def findN (name : List UInt8) : List FI → Nat
  | [] => 0
  | x :: L => if Op.bytesLess x.name name = true then findN name L + 1 else 0
def isN (name : List UInt8) (L : List FI) : Bool := match L[findN name L]? with
  | some x => x.name == name
  | none => false
theorem find_le (name : List UInt8) : ∀ L, findN name L ≤ L.length
  | [] => Nat.le_refl _
  | x :: L => by rw [findN, List.length_cons]; have := find_le name L; split <;> omega
theorem find_less (name : List UInt8) : ∀ (L : List FI) (k : Nat) (h : k < L.length), k < findN name L → Op.bytesLess L[k].name name = true
  | [], k, h, _ => by simp at h
  | x :: L, 0, h, hk => by
    rw [findN] at hk
    split at hk
    · assumption
    · omega
  | x :: L, k + 1, h, hk => by
    rw [findN] at hk
    split at hk
    · exact find_less name L k (by simpa using h) (by omega)
    · omega
theorem find_stop (name : List UInt8) : ∀ (L : List FI) (h : findN name L < L.length), Op.bytesLess L[findN name L].name name = false
  | [], h => by simp at h
  | x :: L, h => by
    by_cases hx : Op.bytesLess x.name name = true
    · have e : findN name (x :: L) = findN name L + 1 := by rw [findN, if_pos hx]
      simp only [e, List.getElem_cons_succ]
      exact find_stop name L (by rw [e] at h; simpa using h)
    · have e : findN name (x :: L) = 0 := by rw [findN, if_neg hx]
      simp only [e, List.getElem_cons_zero]
      simpa using hx
theorem is_at (name : List UInt8) (L : List FI) (h : findN name L < L.length) : isN name L = (L[findN name L].name == name) := by
  rw [isN, List.getElem?_eq_getElem h]
theorem is_end (name : List UInt8) (L : List FI) (h : ¬ findN name L < L.length) : isN name L = false := by
  rw [isN, List.getElem?_eq_none (by omega)]
def FdRel (fn : Nat) (i : Value) : Prop := ∃ k : Nat, i = .int .i64 k ∧ k ≤ fn

set_option maxHeartbeats 4000000 in
theorem find_any (n₀ : Nat) (w : World) (b : Nat) (M : RS) (v : Value) (s : ByteArray) (h : RefAt n₀ w b M v) (hL : M.L.length ≤ 1000) :
    Calls Try.prog 23 #[.pointer (some ⟨b, 0, none⟩), .string s] w fun e w' =>
      e = .returned (.tuple #[.int .i64 (findN s.data.toList M.L : Nat), .bool (isN s.data.toList M.L)]) ∧ Drw w w' := by
  obtain ⟨c0, -, -, -⟩ := h.cells
  obtain ⟨pp, cap, rfl⟩ := ownG_len h.own
  obtain ⟨fn, hfn⟩ : ∃ fn, fn = findN s.data.toList M.L := ⟨_, rfl⟩
  obtain ⟨is, his⟩ : ∃ is, is = isN s.data.toList M.L := ⟨_, rfl⟩
  have hle : fn ≤ M.L.length := by rw [hfn]; exact find_le _ _
  have F1 := Lib.hid (show ∀ k (h : k < M.L.length), k < fn → Op.bytesLess M.L[k].name s.toList = true by
    rw [ByteArray.toList_eq, hfn]; exact find_less _ _)
  have F2 := Lib.hid (show ∀ k (h : k < M.L.length), k = fn → Op.bytesLess M.L[k].name s.toList = false ∧ (M.L[k].name == s.toList) = is by
    rw [ByteArray.toList_eq, his]
    rintro k h rfl
    subst hfn
    exact ⟨find_stop _ _ h, (is_at _ _ h).symm⟩)
  have F3 := Lib.hid (show ¬ fn < M.L.length → is = false by rw [hfn, his]; exact is_end _ _)
  rw [← hfn, ← his]
  clear hfn his
  have HR := Lib.hid h
  clear h
  go_enter Try.func23, Try.ntmps23
  go_wp2_with (fail)
  go_loopw [6] (fun i x => FdRel fn i ∧ Drw w x) (fun i _ => M.L.length - (intOf i).toNat)
  case atStart => exact ⟨⟨0, rfl, Nat.zero_le _⟩, Drw.refl w⟩
  case round =>
    obtain ⟨⟨k, rfl, hk⟩, hw⟩ := hrel
    have HW := Lib.hid hw; clear hw
    have c0' := (bcell HW.out.bel).1 b 0 (block_lt_of_cell c0)
    rw [c0] at c0'
    by_cases hlt : k < M.L.length
    · have hne : M.L ≠ [] := by intro e; rw [e] at hlt; simp at hlt
      obtain ⟨g, cap', hv, _, hgl, _, hcs⟩ := ownG_cells fileOk HR.out.own hne
      cases hv
      obtain ⟨y, hy⟩ : ∃ y, y = M.L[k] := ⟨_, rfl⟩
      have d0 := hcs k M.L[k] (List.getElem?_eq_getElem hlt) 0 _ rfl
      rw [← hy] at d0
      have d0' := ((bcell HW.out.bel).1 g (k * 3 + 0) hgl).trans d0
      simp only [Nat.add_zero] at d0'
      clear d0 hcs hne
      by_cases hkf : k < fn
      · have hb := F1.out k hlt hkf
        rw [← hy] at hb
        clear hy
        go_wp2_with (fail)
        go_roundw
        case rel => exact ⟨⟨k + 1, by go_num, by omega⟩, HW.out⟩
        case measure => simp [intOf]; omega
      · obtain rfl : k = fn := by omega
        obtain ⟨hb, hi⟩ := F2.out k hlt rfl
        rw [← hy] at hb hi
        clear hy
        go_wp2_with (fail)
        go_quiet (fail)
        go_wp2_with (fail)
        go_ret2
        exact ⟨rfl, HW.out.drewN _⟩
    · obtain rfl : k = fn := by omega
      have hi := F3.out hlt
      go_wp2_with (fail)
      go_quiet (fail)
      go_wp2_with (fail)
      go_ret2
      exact ⟨by rw [hi]; rfl, HW.out.drewN _⟩

/-- A turn: the error, and what is left. -/
def turnS (M : RS) : Int × RS := if M.turns = 0 then (7, { M with gone := true }) else if 0 < M.turns then (0, { M with turns := M.turns - 1 }) else (0, M)
set_option maxHeartbeats 2000000 in
theorem turn_any (n₀ : Nat) (w : World) (b : Nat) (M : RS) (v : Value) (h : RefAt n₀ w b M v) (ht : -1 ≤ M.turns ∧ M.turns ≤ 9223372036854775807) :
    Calls Try.prog 26 #[.pointer (some ⟨b, 0, none⟩)] w fun e w' =>
      e = .returned (.int .i64 (turnS M).1) ∧ RefAt n₀ w' b (turnS M).2 v ∧ Keep [b] w w' := by
  obtain ⟨c0, c1, c2, c3⟩ := h.cells
  have f2 := h.frozen 2
  have f3 := h.frozen 3
  obtain ⟨ht1, ht2⟩ := ht
  have HR := Lib.hid h; clear h
  by_cases h0 : M.turns = 0
  · have hb0 : (M.turns == 0) = true := by rw [beq_iff_eq]; exact h0
    have HT := Lib.hid (show turnS M = (7, { M with gone := true }) by unfold turnS; rw [if_pos h0])
    clear h0
    go_enter Try.func26, Try.ntmps26
    go_wp2_with (fail)
    go_ret
    rw [HT.out]
    exact ⟨rfl, HR.out.put_gone true, keep_set w b 3 _⟩
  · have hb0 : (M.turns == 0) = false := by rw [beq_eq_false_iff_ne]; exact h0
    by_cases h1 : 0 < M.turns
    · have HT := Lib.hid (show turnS M = (0, { M with turns := M.turns - 1 }) by unfold turnS; rw [if_neg h0, if_pos h1])
      go_enter Try.func26, Try.ntmps26
      go_wp2_with (fail)
      go_ret
      rw [HT.out]
      exact ⟨rfl, HR.out.put_turns _, keep_set w b 2 _⟩
    · have HT := Lib.hid (show turnS M = (0, M) by unfold turnS; rw [if_neg h0, if_neg h1])
      go_enter Try.func26, Try.ntmps26
      go_wp2_with (fail)
      go_ret
      rw [HT.out]
      exact ⟨rfl, HR.out, Keep.refl _ w⟩

def bytesN : List FI → Nat
  | [] => 0
  | x :: L => x.bytes.length + bytesN L
theorem bytes_take (L : List FI) (k : Nat) (h : k < L.length) : bytesN (L.take (k + 1)) = bytesN (L.take k) + L[k].bytes.length := by
  induction L generalizing k with
  | nil => simp at h
  | cons x L ih =>
    cases k with
    | zero => simp [bytesN]
    | succ k =>
      have := ih k (by simpa using h)
      simp only [List.take_succ_cons, bytesN, List.getElem_cons_succ]
      omega
theorem bytes_le (L : List FI) (k : Nat) : bytesN (L.take k) ≤ bytesN L := by
  induction L generalizing k with
  | nil => simp [bytesN]
  | cons x L ih =>
    cases k with
    | zero => simp [bytesN]
    | succ k =>
      have := ih k
      simp only [List.take_succ_cons, bytesN]
      omega
def UsRel (L : List FI) (n i : Value) : Prop := ∃ k : Nat, i = .int .i64 k ∧ k ≤ L.length ∧ n = .int .i64 (bytesN (L.take k) : Nat)
set_option maxHeartbeats 2000000 in
theorem used_any (n₀ : Nat) (w : World) (b : Nat) (M : RS) (v : Value) (h : RefAt n₀ w b M v) (hL : M.L.length ≤ 1000) (hB : bytesN M.L ≤ 1000000000) :
    Calls Try.prog 25 #[.pointer (some ⟨b, 0, none⟩)] w fun e w' => e = .returned (.int .i64 (bytesN M.L : Nat)) ∧ Drw w w' := by
  obtain ⟨c0, -, -, -⟩ := h.cells
  obtain ⟨pp, cap, rfl⟩ := ownG_len h.own
  have HR := Lib.hid h; clear h
  go_enter Try.func25, Try.ntmps25
  go_wp2_with (fail)
  go_loopw [3, 4] (fun n i x => UsRel M.L n i ∧ Drw w x) (fun _ i _ => M.L.length - (intOf i).toNat)
  case atStart => exact ⟨⟨0, rfl, Nat.zero_le _, rfl⟩, Drw.refl w⟩
  case round =>
    obtain ⟨⟨k, rfl, hk, rfl⟩, hw⟩ := hrel
    have HW := Lib.hid hw; clear hw
    have c0' := (bcell HW.out.bel).1 b 0 (block_lt_of_cell c0)
    rw [c0] at c0'
    by_cases hlt : k < M.L.length
    · have hne : M.L ≠ [] := by intro e; rw [e] at hlt; simp at hlt
      obtain ⟨g, cap', hv, _, hgl, _, hcs⟩ := ownG_cells fileOk HR.out.own hne
      cases hv
      have HT := Lib.hid (bytes_take M.L k hlt)
      have hle := bytes_le M.L (k + 1)
      rw [HT.out] at hle
      obtain ⟨y, hy⟩ : ∃ y, y = M.L[k] := ⟨_, rfl⟩
      have d0 := hcs k M.L[k] (List.getElem?_eq_getElem hlt) 1 _ rfl
      rw [← hy] at d0 HT hle
      have d0' := ((bcell HW.out.bel).1 g (k * 3 + 1) hgl).trans d0
      clear d0 hcs hne hy
      have hys : (⟨y.bytes.toArray⟩ : ByteArray).size = y.bytes.length := by show y.bytes.toArray.size = _; simp
      generalize bytesN (M.L.take k) = z at *
      go_wp2_with (fail)
      go_roundw
      case rel => exact ⟨⟨k + 1, by go_num, by omega, by rw [HT.out]; go_num⟩, HW.out⟩
      case measure => simp [intOf]; omega
    · obtain rfl : k = M.L.length := by omega
      have HT := Lib.hid (show M.L.take M.L.length = M.L from List.take_length ..)
      go_wp2_with (fail)
      go_ret
      exact ⟨ret_int (by rw [HT.out]), HW.out⟩

def newS (room : Int) : RS := ⟨[], room, -1, false⟩
set_option maxHeartbeats 2000000 in
theorem rnew_any (room : Int) (w : World) (h : 0 ≤ room ∧ room ≤ 10000000) :
    Calls Try.prog 7 #[.int .i64 room] w fun e w' => e = .returned (.tuple #[.pointer (some ⟨w.heap.size, 0, none⟩), .int .i64 0]) ∧
      RefAt w.heap.size w' w.heap.size (newS room) (.slice none 0 0) ∧ Bel w w' := by
  obtain ⟨h1, h2⟩ := h
  go_enter Try.func7, Try.ntmps7
  go_wp2_with (fail)
  go_ret2
  exact ⟨rfl, ⟨heap_alloc_new w _, OwnG.nil _ _ _, Nat.le_refl _⟩, (Bel.refl w).alloc _⟩
set_option maxHeartbeats 2000000 in
theorem rnew_bad (room : Int) (w : World) (h : ¬ (0 ≤ room ∧ room ≤ 10000000)) (hr : -9223372036854775808 ≤ room ∧ room ≤ 9223372036854775807) :
    Calls Try.prog 7 #[.int .i64 room] w fun e w' => e = .returned (.tuple #[.pointer none, .int .i64 2]) ∧ Bel w w' := by
  by_cases h0 : room < 0
  · go_enter Try.func7, Try.ntmps7
    go_wp2_with (fail)
    go_ret2
    exact ⟨rfl, Bel.refl w⟩
  · have h1 : 10000000 < room := by omega
    go_enter Try.func7, Try.ntmps7
    go_wp2_with (fail)
    go_ret2
    exact ⟨rfl, Bel.refl w⟩
end Go.Proofs.Ytedopiojidaeiaa
