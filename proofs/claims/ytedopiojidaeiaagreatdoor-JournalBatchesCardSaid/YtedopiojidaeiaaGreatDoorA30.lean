/- JName, JOps, laid together. -/
import Derived.Test.YtedopiojidaeiaaGreatDoorA21
import Derived.Test.YtedopiojidaeiaaGreatDoorA26
import Derived.Test.YtedopiojidaeiaaGreatDoorA29
import Derived.Test.YtedopiojidaeiaaGreatDoorA4
import Derived.Lib.AtoiAllCases
import Derived.Test.YtedopiojidaeiaaGreatDoorA20
/- journal.isName and moultref7.named; the names of segments. -/
set_option linter.unusedSimpArgs false
set_option linter.unusedVariables false
namespace Go.Proofs.YtedopiojidaeiaaGreatDoor
open Go.RowKit Go.Deep

def letJ (c : UInt8) : Bool := decide (97 ≤ c.toNat) && decide (c.toNat ≤ 122)
def nameJ (l : List UInt8) : Bool := l.all letJ && (decide (1 ≤ l.length) && decide (l.length ≤ 8))
theorem nameJ_bad (l : List UInt8) (k : Nat) (h : k < l.length) (hb : letJ l[k] = false) : nameJ l = false := by
  have : l.all letJ = false := by
    rw [List.all_eq_false]
    exact ⟨l[k], List.getElem_mem h, by simp [hb]⟩
  unfold nameJ
  rw [this]; rfl
theorem letJ_ways (c : UInt8) : (letJ c = true ∧ ¬ (c.toNat : Int) < 97 ∧ ¬ (122 : Int) < (c.toNat : Int)) ∨ (letJ c = false ∧ (c.toNat : Int) < 97) ∨ (letJ c = false ∧ ¬ (c.toNat : Int) < 97 ∧ (122 : Int) < (c.toNat : Int)) := by
  unfold letJ
  by_cases h1 : c.toNat < 97
  · exact Or.inr (Or.inl ⟨by simp; omega, by omega⟩)
  · by_cases h2 : 122 < c.toNat
    · exact Or.inr (Or.inr ⟨by simp; omega, by omega, by omega⟩)
    · exact Or.inl ⟨by simp; omega, by omega, by omega⟩
theorem allJ_take (l : List UInt8) (k : Nat) (h : k < l.length) (h1 : (l.take k).all letJ = true) (h2 : letJ l[k] = true) : (l.take (k + 1)).all letJ = true := by
  rw [List.take_add_one, List.getElem?_eq_getElem h, List.all_append, h1]
  simp [h2]
def NjRel (l : List UInt8) (i : Value) : Prop := ∃ k : Nat, i = .int .i64 k ∧ k ≤ l.length ∧ (l.take k).all letJ = true

set_option maxHeartbeats 4000000 in
theorem jisname_any (s : ByteArray) (w : World) (hs : s.size ≤ maxLen) :
    Calls Tryz.prog 60 #[.string s] w fun e w' => e = .returned (.bool (nameJ s.data.toList)) ∧ Drw w w' := by
  unfold maxLen at hs
  have hsl : s.data.toList.length = s.size := rfl
  by_cases h0 : s.size = 0
  · obtain rfl : s = ⟨#[]⟩ := by apply ByteArray.ext; exact Array.eq_empty_of_size_eq_zero h0
    have HN := Lib.hid (show nameJ ((⟨#[]⟩ : ByteArray)).data.toList = false from rfl)
    clear hsl h0
    go_enter Tryz.func60, Tryz.ntmps60
    go_wp2_with (fail)
    go_ret
    exact ⟨by rw [HN.out]; rfl, Drw.refl w⟩
  have hne : s.toList.isEmpty = false := by
    rw [ByteArray.toList_eq]
    cases hd : s.data.toList with
    | nil => rw [hd] at hsl; simp at hsl; omega
    | cons => rfl
  by_cases h8 : 8 < s.size
  · have HN := Lib.hid (show nameJ s.data.toList = false by
      unfold nameJ
      rw [hsl]
      simp; omega)
    clear hsl
    go_enter Tryz.func60, Tryz.ntmps60
    go_wp2_with (fail)
    go_ret
    exact ⟨by rw [HN.out]; rfl, Drw.refl w⟩
  go_enter Tryz.func60, Tryz.ntmps60
  go_wp2_with (fail)
  go_loopw [13] (fun i x => NjRel s.data.toList i ∧ Drw w x) (fun i _ => s.size - (intOf i).toNat)
  case atStart => exact ⟨⟨0, rfl, Nat.zero_le _, rfl⟩, Drw.refl w⟩
  case round =>
    obtain ⟨⟨k, rfl, hk, hall⟩, hw⟩ := hrel
    have HW := Lib.hid hw; clear hw
    have HA := Lib.hid hall; clear hall
    rw [hsl] at hk
    by_cases hlt : k < s.size
    · have HB := Lib.hid (show letJ s[k] = false → nameJ s.data.toList = false from fun h => nameJ_bad s.data.toList k hlt h)
      have HT := Lib.hid (show letJ s[k] = true → (s.data.toList.take (k + 1)).all letJ = true from fun h => allJ_take s.data.toList k hlt HA.out h)
      rcases letJ_ways s[k] with ⟨hl, h1, h2⟩ | ⟨hl, h1⟩ | ⟨hl, h1, h2⟩
      · have HT2 := Lib.hid (HT.out hl); clear hl
        go_wp2_with (fail)
        go_roundw
        case rel => exact ⟨⟨k + 1, by go_num, by omega, HT2.out⟩, HW.out⟩
        case measure => simp [intOf]; omega
      · have HN := Lib.hid (HB.out hl); clear hl
        go_wp2_with (fail)
        go_ret
        exact ⟨by rw [HN.out]; rfl, HW.out⟩
      · have HN := Lib.hid (HB.out hl); clear hl
        go_wp2_with (fail)
        go_ret
        exact ⟨by rw [HN.out]; rfl, HW.out⟩
    · obtain rfl : k = s.size := by omega
      have HN := Lib.hid (show nameJ s.data.toList = true by
        have := HA.out
        rw [← hsl, List.take_length] at this
        unfold nameJ
        rw [this, hsl]; simp; omega)
      go_wp2_with (fail)
      go_ret
      exact ⟨by rw [HN.out]; rfl, HW.out⟩
set_option maxHeartbeats 4000000 in
theorem jnamed_any (s : ByteArray) (w : World) (hs : s.size ≤ maxLen) :
    Calls Tryz.prog 64 #[.string s] w fun e w' => e = .returned (.bool (nameJ s.data.toList)) ∧ Drw w w' := by
  unfold maxLen at hs
  have hsl : s.data.toList.length = s.size := rfl
  go_enter Tryz.func64, Tryz.ntmps64
  go_wp2_with (fail)
  go_loopw [3] (fun i x => NjRel s.data.toList i ∧ Drw w x) (fun i _ => s.size - (intOf i).toNat)
  case atStart => exact ⟨⟨0, rfl, Nat.zero_le _, rfl⟩, Drw.refl w⟩
  case round =>
    obtain ⟨⟨k, rfl, hk, hall⟩, hw⟩ := hrel
    have HW := Lib.hid hw; clear hw
    have HA := Lib.hid hall; clear hall
    rw [hsl] at hk
    by_cases hlt : k < s.size
    · have HB := Lib.hid (show letJ s[k] = false → nameJ s.data.toList = false from fun h => nameJ_bad s.data.toList k hlt h)
      have HT := Lib.hid (show letJ s[k] = true → (s.data.toList.take (k + 1)).all letJ = true from fun h => allJ_take s.data.toList k hlt HA.out h)
      rcases letJ_ways s[k] with ⟨hl, h1, h2⟩ | ⟨hl, h1⟩ | ⟨hl, h1, h2⟩
      · have HT2 := Lib.hid (HT.out hl); clear hl
        go_wp2_with (fail)
        go_roundw
        case rel => exact ⟨⟨k + 1, by go_num, by omega, HT2.out⟩, HW.out⟩
        case measure => simp [intOf]; omega
      · have HN := Lib.hid (HB.out hl); clear hl
        go_wp2_with (fail)
        go_ret
        exact ⟨by rw [HN.out]; rfl, HW.out⟩
      · have HN := Lib.hid (HB.out hl); clear hl
        go_wp2_with (fail)
        go_ret
        exact ⟨by rw [HN.out]; rfl, HW.out⟩
    · obtain rfl : k = s.size := by omega
      have hall := HA.out
      rw [← hsl, List.take_length] at hall
      have HN := Lib.hid (show nameJ s.data.toList = (decide (1 ≤ s.size) && decide (s.size ≤ 8)) by
        unfold nameJ
        rw [hall, hsl]; simp)
      clear hall
      by_cases h1 : s.size = 0
      · go_wp2_with (fail)
        go_ret
        exact ⟨by rw [HN.out, h1]; rfl, HW.out⟩
      · by_cases h8 : 8 < s.size
        · have HN8 := Lib.hid (show nameJ s.data.toList = false by rw [HN.out]; simp; omega)
          go_wp2_with (fail)
          go_ret
          exact ⟨by rw [HN8.out]; show Ending.returned (.bool (decide ((s.size : Int) ≤ 8))) = _; rw [decide_eq_false (by omega)], HW.out⟩
        · have HN8 := Lib.hid (show nameJ s.data.toList = true by rw [HN.out]; simp; omega)
          go_wp2_with (fail)
          go_ret
          exact ⟨by rw [HN8.out]; show Ending.returned (.bool (decide ((s.size : Int) ≤ 8))) = _; rw [decide_eq_true (by omega)], HW.out⟩

/-- A journal lies at block b: its files, its name, when a segment is full. -/
structure JAt (x : World) (b f : Nat) (p : ByteArray) (most : Int) : Prop where
  files : x.cell? ⟨b, 0, none⟩ = some (.pointer (some ⟨f, 0, none⟩))
  name : x.cell? ⟨b, 1, none⟩ = some (.string p)
  most : x.cell? ⟨b, 2, none⟩ = some (.int .i64 most)
theorem JAt.lt {x : World} {b f : Nat} {p : ByteArray} {most : Int} (h : JAt x b f p most) : b < x.heap.size := block_lt_of_cell h.files
theorem JAt.keep {x y : World} {b f : Nat} {p : ByteArray} {most : Int} (h : JAt x b f p most) (hk : y.heap[b]? = x.heap[b]?) : JAt y b f p most :=
  ⟨(World.cell?_of_block hk).trans h.files, (World.cell?_of_block hk).trans h.name, (World.cell?_of_block hk).trans h.most⟩
theorem JAt.bel {x y : World} {b f : Nat} {p : ByteArray} {most : Int} (h : JAt x b f p most) (hb : Bel x y) : JAt y b f p most := h.keep (Below.block hb b h.lt)
theorem ba_file (p : ByteArray) (n : Nat) : p ++ ⟨#[46]⟩ ++ ⟨(Lib.itoa (n : Int)).toArray⟩ = (⟨(fileN p.data.toList n).toArray⟩ : ByteArray) := by
  apply ByteArray.ext; simp [fileN]
theorem itoa_short {n : Nat} (hn : n ≤ 10000000) : (Lib.itoa (n : Int)).length ≤ 21 := Lib.itoa_length_le n (by omega) (by omega)
theorem file_len (p : List UInt8) {n : Nat} (hn : n ≤ 10000000) : (fileN p n).length ≤ p.length + 22 := by
  have := itoa_short hn
  unfold fileN; rw [List.length_append, List.length_cons]; omega

set_option maxHeartbeats 4000000 in
set_option maxRecDepth 20000 in
theorem file_any (w : World) (b f : Nat) (p : ByteArray) (most : Int) (n : Nat) (h : JAt w b f p most) (hp : p.size ≤ 100) (hn : n ≤ 10000000) (hstd : Std w) :
    Calls Tryz.prog 72 #[.pointer (some ⟨b, 0, none⟩), .int .i64 n] w fun e w' => e = .returned (.string ⟨(fileN p.data.toList n).toArray⟩) ∧ Bel w w' := by
  have HS := Lib.hid hstd; clear hstd
  have hil := itoa_short hn
  have hiz := str_len (Lib.itoa (n : Int))
  have c1 := h.name
  have n1 : ¬ 9223372036854775807 < p.size + 1 := by omega
  go_enter Tryz.func72, Tryz.ntmps72
  go_wp2_with (fail)
  refine wp_region_held_drew (S := fun z => z.cell? ⟨b, 1, none⟩ = some (.string p)) (by kernel_rfl) c1 (fun hHeld => ?_)
  refine wpAnyH_take (i := 0) (oi := { dst := some 5, op := Op.move (Operand.tmp 0), type := 57, pos := "journal.go:145", after := #[], guard := none }) (v := ?_) rfl (by kernel_rfl) (by kernel_rfl) (by kernel_rfl) (fun _ _ _ h => h) (Or.inl ⟨by rfl, ?_⟩) (by assumption) ?_
  rotate_left
  · (intro w hSw; (try dsimp only at hSw); first | (go_simp; done) | (go_simp; with_reducible rfl))
  try simp only [Act.put, List.setIfInBounds_toArray, List.set_cons_zero, List.set_cons_succ]
  refine wpAnyH_take (i := 1) (oi := { dst := some 6, op := Op.nilCheck (Operand.tmp 5), type := 0, pos := "journal.go:145", after := #[{ on := 0, ground := Ground.data }], guard := none }) (v := ?_) rfl (by kernel_rfl) (by kernel_rfl) (by kernel_rfl) (fun _ _ _ h => h) (Or.inl ⟨by rfl, ?_⟩) (by assumption) ?_
  rotate_left
  · (intro w hSw; (try dsimp only at hSw); first | (go_simp; done) | (go_simp; with_reducible rfl))
  try simp only [Act.put, List.setIfInBounds_toArray, List.set_cons_zero, List.set_cons_succ]
  refine wpAnyH_take (i := 2) (oi := { dst := some 7, op := Op.fieldAddr 104 (Operand.tmp 6) 1, type := 0, pos := "journal.go:145", after := #[{ on := 1, ground := Ground.data }], guard := none }) (v := ?_) rfl (by kernel_rfl) (by kernel_rfl) (by kernel_rfl) (fun _ _ _ h => h) (Or.inl ⟨by rfl, ?_⟩) (by assumption) ?_
  rotate_left
  · (intro w hSw; (try dsimp only at hSw); first | (go_simp; done) | (go_simp; with_reducible rfl))
  try simp only [Act.put, List.setIfInBounds_toArray, List.set_cons_zero, List.set_cons_succ]
  refine wpAnyH_take (i := 3) (oi := { dst := some 8, op := Op.load 9 (Operand.tmp 7), type := 9, pos := "journal.go:145", after := #[{ on := 2, ground := Ground.data }], guard := none }) (v := ?_) rfl (by kernel_rfl) (by kernel_rfl) (by kernel_rfl) (fun _ _ _ h => h) (Or.inl ⟨by rfl, ?_⟩) (by assumption) ?_
  rotate_left
  · (intro w hSw; (try dsimp only at hSw); first | (go_simp; done) | (go_simp; with_reducible rfl))
  try simp only [Act.put, List.setIfInBounds_toArray, List.set_cons_zero, List.set_cons_succ]
  refine wpAnyH_take (i := 4) (oi := { dst := some 9, op := Op.binOp BinOp.add 9 (Operand.tmp 8) (Operand.const (Value.string { data := #[46] })) 9, type := 9, pos := "journal.go:145", after := #[{ on := 3, ground := Ground.data }], guard := none }) (v := ?_) rfl (by kernel_rfl) (by kernel_rfl) (by kernel_rfl) (fun _ _ _ h => h) (Or.inl ⟨by rfl, ?_⟩) (by assumption) ?_
  rotate_left
  · (intro w hSw; (try dsimp only at hSw); first | (go_simp; done) | (go_simp; with_reducible rfl))
  try simp only [Act.put, List.setIfInBounds_toArray, List.set_cons_zero, List.set_cons_succ]
  refine wpAnyH_take (i := 5) (oi := { dst := some 10, op := Op.move (Operand.tmp 1), type := 3, pos := "journal.go:145", after := #[], guard := none }) (v := ?_) rfl (by kernel_rfl) (by kernel_rfl) (by kernel_rfl) (fun _ _ _ h => h) (Or.inl ⟨by rfl, ?_⟩) (by assumption) ?_
  rotate_left
  · (intro w hSw; (try dsimp only at hSw); first | (go_simp; done) | (go_simp; with_reducible rfl))
  try simp only [Act.put, List.setIfInBounds_toArray, List.set_cons_zero, List.set_cons_succ]
  refine wpAnyH_ready (rs := [6]) (by kernel_rfl) (by simp) ?_
  refine AllReadyH.cons (o := { dst := some 11, op := Op.call { callee := Callee.value (Operand.func 100), args := #[Operand.tmp 10], argTypes := #[3] }, type := 9, pos := "journal.go:145", after := #[{ on := 5, ground := Ground.data }], guard := none }) rfl (fun K hK => ?_) AllReadyH.nil
  go_simp
  refine (itoa_any n (by omega) (by omega) _ HS.out.drew).mono ?_
  rintro e w1 ⟨rfl, hb1⟩
  have HB := Lib.hid ((Bel.refl w).drew.trans hb1)
  have c2 := cell_later HB.out c1
  clear hb1
  dsimp only
  refine hK.out _ _ c2 (fun hHeld => ?_)
  clear hK K
  try simp only [Act.put, List.setIfInBounds_toArray, List.set_cons_zero, List.set_cons_succ]
  refine wpAnyH_take (i := 7) (oi := { dst := some 12, op := Op.binOp BinOp.add 9 (Operand.tmp 9) (Operand.tmp 11) 9, type := 9, pos := "journal.go:145", after := #[{ on := 4, ground := Ground.data }, { on := 6, ground := Ground.data }], guard := none }) (v := ?_) rfl (by kernel_rfl) (by kernel_rfl) (by kernel_rfl) (fun _ _ _ h => h) (Or.inl ⟨by rfl, ?_⟩) (by assumption) ?_
  rotate_left
  · (intro w hSw; (try dsimp only at hSw); first | (go_simp; rw [if_neg (by omega)]; done))
  try simp only [Act.put, List.setIfInBounds_toArray, List.set_cons_zero, List.set_cons_succ]
  refine wpAnyH_take (i := 8) (oi := { dst := some 4, op := Op.assign (Operand.tmp 12), type := 9, pos := "journal.go:145", after := #[{ on := 7, ground := Ground.data }, { on := 6, ground := Ground.chain }, { on := 0, ground := Ground.phase }, { on := 1, ground := Ground.phase }, { on := 2, ground := Ground.phase }, { on := 3, ground := Ground.phase }, { on := 4, ground := Ground.phase }, { on := 5, ground := Ground.phase }, { on := 6, ground := Ground.phase }, { on := 7, ground := Ground.phase }], guard := none }) (v := ?_) rfl (by kernel_rfl) (by kernel_rfl) (by kernel_rfl) (fun _ _ _ h => h) (Or.inl ⟨by rfl, ?_⟩) (by assumption) ?_
  rotate_left
  · (intro w hSw; (try dsimp only at hSw); first | (go_simp; done) | (go_simp; with_reducible rfl))
  try simp only [Act.put, List.setIfInBounds_toArray, List.set_cons_zero, List.set_cons_succ]
  refine wpAnyH_done (by kernel_rfl) ?_ _
  go_wp2_with (fail)
  go_ret
  exact ⟨by rw [← ba_file]; rfl, HB.out⟩
set_option maxHeartbeats 4000000 in
set_option maxRecDepth 20000 in
theorem rfile_any (w : World) (b f : Nat) (p : ByteArray) (most : Int) (n : Nat) (h : JAt w b f p most) (hp : p.size ≤ 100) (hn : n ≤ 10000000) :
    Calls Tryz.prog 65 #[.pointer (some ⟨b, 0, none⟩), .int .i64 n] w fun e w' => e = .returned (.string ⟨(fileN p.data.toList n).toArray⟩) ∧ Bel w w' := by
  have hil := itoa_short hn
  have hiz := str_len (Lib.itoa (n : Int))
  have c1 := h.name
  have n1 : ¬ 9223372036854775807 < p.size + 1 := by omega
  go_enter Tryz.func65, Tryz.ntmps65
  go_wp2_with (fail)
  refine wp_region_held_drew (S := fun z => z.cell? ⟨b, 1, none⟩ = some (.string p)) (by kernel_rfl) c1 (fun hHeld => ?_)
  refine wpAnyH_take (i := 0) (oi := { dst := some 5, op := Op.move (Operand.tmp 0), type := 60, pos := "ref.go:92", after := #[], guard := none }) (v := ?_) rfl (by kernel_rfl) (by kernel_rfl) (by kernel_rfl) (fun _ _ _ h => h) (Or.inl ⟨by rfl, ?_⟩) (by assumption) ?_
  rotate_left
  · (intro w hSw; (try dsimp only at hSw); first | (go_simp; done) | (go_simp; with_reducible rfl))
  try simp only [Act.put, List.setIfInBounds_toArray, List.set_cons_zero, List.set_cons_succ]
  refine wpAnyH_take (i := 1) (oi := { dst := some 6, op := Op.nilCheck (Operand.tmp 5), type := 0, pos := "ref.go:92", after := #[{ on := 0, ground := Ground.data }], guard := none }) (v := ?_) rfl (by kernel_rfl) (by kernel_rfl) (by kernel_rfl) (fun _ _ _ h => h) (Or.inl ⟨by rfl, ?_⟩) (by assumption) ?_
  rotate_left
  · (intro w hSw; (try dsimp only at hSw); first | (go_simp; done) | (go_simp; with_reducible rfl))
  try simp only [Act.put, List.setIfInBounds_toArray, List.set_cons_zero, List.set_cons_succ]
  refine wpAnyH_take (i := 2) (oi := { dst := some 7, op := Op.fieldAddr 109 (Operand.tmp 6) 1, type := 0, pos := "ref.go:92", after := #[{ on := 1, ground := Ground.data }], guard := none }) (v := ?_) rfl (by kernel_rfl) (by kernel_rfl) (by kernel_rfl) (fun _ _ _ h => h) (Or.inl ⟨by rfl, ?_⟩) (by assumption) ?_
  rotate_left
  · (intro w hSw; (try dsimp only at hSw); first | (go_simp; done) | (go_simp; with_reducible rfl))
  try simp only [Act.put, List.setIfInBounds_toArray, List.set_cons_zero, List.set_cons_succ]
  refine wpAnyH_take (i := 3) (oi := { dst := some 8, op := Op.load 9 (Operand.tmp 7), type := 9, pos := "ref.go:92", after := #[{ on := 2, ground := Ground.data }], guard := none }) (v := ?_) rfl (by kernel_rfl) (by kernel_rfl) (by kernel_rfl) (fun _ _ _ h => h) (Or.inl ⟨by rfl, ?_⟩) (by assumption) ?_
  rotate_left
  · (intro w hSw; (try dsimp only at hSw); first | (go_simp; done) | (go_simp; with_reducible rfl))
  try simp only [Act.put, List.setIfInBounds_toArray, List.set_cons_zero, List.set_cons_succ]
  refine wpAnyH_take (i := 4) (oi := { dst := some 9, op := Op.binOp BinOp.add 9 (Operand.tmp 8) (Operand.const (Value.string { data := #[46] })) 9, type := 9, pos := "ref.go:92", after := #[{ on := 3, ground := Ground.data }], guard := none }) (v := ?_) rfl (by kernel_rfl) (by kernel_rfl) (by kernel_rfl) (fun _ _ _ h => h) (Or.inl ⟨by rfl, ?_⟩) (by assumption) ?_
  rotate_left
  · (intro w hSw; (try dsimp only at hSw); first | (go_simp; done) | (go_simp; with_reducible rfl))
  try simp only [Act.put, List.setIfInBounds_toArray, List.set_cons_zero, List.set_cons_succ]
  refine wpAnyH_take (i := 5) (oi := { dst := some 10, op := Op.move (Operand.tmp 1), type := 3, pos := "ref.go:92", after := #[], guard := none }) (v := ?_) rfl (by kernel_rfl) (by kernel_rfl) (by kernel_rfl) (fun _ _ _ h => h) (Or.inl ⟨by rfl, ?_⟩) (by assumption) ?_
  rotate_left
  · (intro w hSw; (try dsimp only at hSw); first | (go_simp; done) | (go_simp; with_reducible rfl))
  try simp only [Act.put, List.setIfInBounds_toArray, List.set_cons_zero, List.set_cons_succ]
  refine wpAnyH_ready (rs := [6]) (by kernel_rfl) (by simp) ?_
  refine AllReadyH.cons (o := { dst := some 11, op := Op.call { callee := Callee.value (Operand.func 96), args := #[Operand.tmp 10], argTypes := #[3] }, type := 9, pos := "ref.go:92", after := #[{ on := 5, ground := Ground.data }], guard := none }) rfl (fun K hK => ?_) AllReadyH.nil
  go_simp
  refine (ref_decimal_any n (by omega) (by omega) _).mono ?_
  rintro e w1 ⟨rfl, hb1⟩
  have HB := Lib.hid ((Bel.refl w).drew.trans hb1.bel)
  have c2 := cell_later HB.out c1
  clear hb1
  dsimp only
  refine hK.out _ _ c2 (fun hHeld => ?_)
  clear hK K
  try simp only [Act.put, List.setIfInBounds_toArray, List.set_cons_zero, List.set_cons_succ]
  refine wpAnyH_take (i := 7) (oi := { dst := some 12, op := Op.binOp BinOp.add 9 (Operand.tmp 9) (Operand.tmp 11) 9, type := 9, pos := "ref.go:92", after := #[{ on := 4, ground := Ground.data }, { on := 6, ground := Ground.data }], guard := none }) (v := ?_) rfl (by kernel_rfl) (by kernel_rfl) (by kernel_rfl) (fun _ _ _ h => h) (Or.inl ⟨by rfl, ?_⟩) (by assumption) ?_
  rotate_left
  · (intro w hSw; (try dsimp only at hSw); first | (go_simp; rw [if_neg (by omega)]; done))
  try simp only [Act.put, List.setIfInBounds_toArray, List.set_cons_zero, List.set_cons_succ]
  refine wpAnyH_take (i := 8) (oi := { dst := some 4, op := Op.assign (Operand.tmp 12), type := 9, pos := "ref.go:92", after := #[{ on := 7, ground := Ground.data }, { on := 6, ground := Ground.chain }, { on := 0, ground := Ground.phase }, { on := 1, ground := Ground.phase }, { on := 2, ground := Ground.phase }, { on := 3, ground := Ground.phase }, { on := 4, ground := Ground.phase }, { on := 5, ground := Ground.phase }, { on := 6, ground := Ground.phase }, { on := 7, ground := Ground.phase }], guard := none }) (v := ?_) rfl (by kernel_rfl) (by kernel_rfl) (by kernel_rfl) (fun _ _ _ h => h) (Or.inl ⟨by rfl, ?_⟩) (by assumption) ?_
  rotate_left
  · (intro w hSw; (try dsimp only at hSw); first | (go_simp; done) | (go_simp; with_reducible rfl))
  try simp only [Act.put, List.setIfInBounds_toArray, List.set_cons_zero, List.set_cons_succ]
  refine wpAnyH_done (by kernel_rfl) ?_ _
  go_wp2_with (fail)
  go_ret
  exact ⟨by rw [← ba_file]; rfl, HB.out⟩
end Go.Proofs.YtedopiojidaeiaaGreatDoor
/- A journal's calls as functions of its files; what they make of the segments; no program. -/
set_option linter.unusedSimpArgs false
set_option linter.unusedVariables false
namespace Go.Proofs.YtedopiojidaeiaaGreatDoor

theorem mem_segs_get {p : List UInt8} {L : List FI} (hs : Srt L) {n : Nat} : n ∈ segsL p L ↔ 1 ≤ n ∧ n ≤ 9999999 ∧ (getF (fileN p n) L).isSome = true := by
  rw [mem_segs_file]
  constructor
  · rintro ⟨h1, h2, x, hx, hn⟩
    refine ⟨h1, h2, ?_⟩
    rw [← hn, getF_of_mem hs hx]; rfl
  · rintro ⟨h1, h2, h3⟩
    obtain ⟨x, hx⟩ := Option.isSome_iff_exists.1 h3
    exact ⟨h1, h2, x, getF_mem hx, getF_name hx⟩
theorem segs_names {p : List UInt8} {L K : List FI} (h : L.map (·.name) = K.map (·.name)) : segsL p L = segsL p K := by
  have e : ∀ L : List FI, segsL p L = (L.map (·.name)).foldl (fun out nm => if segN p nm = 0 then out else insN (segN p nm) out) [] := fun L => by
    unfold segsL; rw [List.foldl_map]
  rw [e, e, h]
theorem last_names {p : List UInt8} {L K : List FI} (h : L.map (·.name) = K.map (·.name)) : lastN p L = lastN p K := by unfold lastN; rw [segs_names h]
theorem ins_names {y : FI} {L : List FI} (hs : Srt L) (h : (getF y.name L).isSome = true) : (insS y L).map (·.name) = L.map (·.name) := by
  induction L with
  | nil => cases h
  | cons x L ih =>
    rw [srt_cons] at hs
    rw [getF_cons] at h
    rw [ins_cons]
    by_cases hb : Op.bytesLess x.name y.name = true
    · rw [if_pos hb, List.map_cons, List.map_cons, ih hs.2 (by rwa [if_neg (bl_ne hb)] at h)]
    · rw [if_neg hb]
      by_cases he : x.name = y.name
      · rw [if_pos he, List.map_cons, List.map_cons, he]
      · rw [Bool.not_eq_true] at hb
        rw [if_neg he, getF_low (fun z hz => bl_trans (bl_total hb he) (hs.1 z hz))] at h
        cases h
theorem ins_perm' {y : FI} {L : List FI} (hs : Srt L) (h : getF y.name L = none) : (insS y L).Perm (y :: L) := by
  induction L with
  | nil => exact List.Perm.refl _
  | cons x L ih =>
    rw [srt_cons] at hs
    rw [getF_cons] at h
    rw [ins_cons]
    by_cases he : x.name = y.name
    · rw [if_pos he] at h; cases h
    · rw [if_neg he] at h
      by_cases hb : Op.bytesLess x.name y.name = true
      · rw [if_pos hb]
        exact ((ih hs.2 h).cons x).trans (List.Perm.swap y x L)
      · rw [if_neg hb, if_neg he]
theorem out_perm {nm : List UInt8} {L : List FI} {y : FI} (hs : Srt L) (h : getF nm L = some y) : L.Perm (y :: outS nm L) := by
  induction L with
  | nil => cases h
  | cons x L ih =>
    rw [srt_cons] at hs
    rw [getF_cons] at h
    rw [out_cons]
    by_cases hb : Op.bytesLess x.name nm = true
    · rw [if_neg (bl_ne hb)] at h
      rw [if_pos hb]
      exact ((ih hs.2 h).cons x).trans (List.Perm.swap y x _)
    · rw [if_neg hb]
      by_cases he : x.name = nm
      · rw [if_pos he] at h ⊢
        obtain rfl : x = y := by simpa using h
        exact List.Perm.refl _
      · rw [Bool.not_eq_true] at hb
        rw [if_neg he, getF_low (fun z hz => bl_trans (bl_total hb he) (hs.1 z hz))] at h
        cases h
theorem col_perm {p : List UInt8} {L K : List FI} (h : L.Perm K) : (colL p L).Perm (colL p K) := (h.map _).filter _
theorem segs_of_perm {p : List UInt8} {L : List FI} {l : List Nat} (h : (colL p L).Perm l) (hl : l.Pairwise (· ≤ ·)) : segsL p L = l :=
  List.Perm.eq_of_pairwise (le := fun x y : Nat => x ≤ y) (fun a b _ _ h1 h2 => Nat.le_antisymm h1 h2) (segs_sorted p L) hl ((segs_perm p L).trans h)
/-- The next segment. -/
theorem segs_next {p : List UInt8} {L : List FI} {y : FI} {n : Nat} (hs : Srt L) (hn : n = lastN p L) (h9 : n < 9999999) (hy : y.name = fileN p (n + 1)) : getF y.name L = none ∧ segsL p (insS y L) = segsL p L ++ [n + 1] := by
  have hnone : getF y.name L = none := by
    cases h : getF y.name L with
    | none => rfl
    | some x =>
      exfalso
      have : n + 1 ∈ segsL p L := (mem_segs_get hs).2 ⟨by omega, by omega, by rw [← hy, h]; rfl⟩
      have := last_max this
      omega
  refine ⟨hnone, segs_of_perm ?_ ?_⟩
  · refine (col_perm (ins_perm' hs hnone)).trans ?_
    have : colL p (y :: L) = (n + 1) :: colL p L := by
      unfold colL
      rw [List.map_cons, hy, seg_file p (n + 1) (by omega) (by omega), List.filter_cons]
      simp
    rw [this]
    exact ((segs_perm p L).symm.cons _).trans (List.perm_append_singleton _ _).symm
  · rw [List.pairwise_append]
    refine ⟨segs_sorted p L, List.pairwise_singleton .., fun a ha b hb => ?_⟩
    rw [List.mem_singleton] at hb
    have := last_max ha
    omega
/-- The least one goes. -/
theorem segs_out {p : List UInt8} {L : List FI} {m : Nat} {r : List Nat} (hs : Srt L) (h : segsL p L = m :: r) : segsL p (outS (fileN p m) L) = r := by
  have hm : m ∈ segsL p L := by rw [h]; simp
  obtain ⟨h1, h2, h3⟩ := (mem_segs_get hs).1 hm
  obtain ⟨y, hy⟩ := Option.isSome_iff_exists.1 h3
  have hsort := segs_sorted p L
  rw [h] at hsort
  refine segs_of_perm ?_ (List.pairwise_cons.1 hsort).2
  have hp := (col_perm (p := p) (out_perm hs hy)).symm.trans ((segs_perm p L).symm)
  rw [h] at hp
  have e : colL p (y :: outS (fileN p m) L) = m :: colL p (outS (fileN p m) L) := by
    unfold colL
    rw [List.map_cons, getF_name hy, seg_file p m h1 h2, List.filter_cons]
    simp; omega
  rw [e] at hp
  exact hp.cons_inv
theorem chg_L (M : RS) (L' : List FI) : (chgS M L').2.L = M.L ∨ (chgS M L').2.L = L' := by
  unfold chgS
  split
  · exact Or.inl (turn_L M)
  · exact Or.inr rfl
theorem chg_zero {M : RS} {L' : List FI} (h : (chgS M L').1 = 0) : (chgS M L').2.L = L' ∧ (chgS M L').2.gone = M.gone := by
  unfold chgS at h ⊢
  split
  · rename_i h0; rw [if_pos h0] at h; cases h
  · rename_i h0
    refine ⟨rfl, ?_⟩
    unfold turnS
    rw [if_neg h0]
    split <;> rfl
/-- Which names there are after calls on a file that is there. -/
theorem add_names {M : RS} (hM : M.ok) {nm : List UInt8} (h : (getF nm M.L).isSome = true) (t : List UInt8) : (addS nm t M).2.L.map (·.name) = M.L.map (·.name) := by
  unfold addS
  split
  · rcases chg_L M (insS (addF nm t M.L) M.L) with e | e <;> rw [e]
    exact ins_names hM.srt (by rw [addF_name]; exact h)
  · rfl
theorem on_names {M : RS} (nm : List UInt8) (k : FI → Int × RS) (hk : ∀ y, getF nm M.L = some y → (k y).2.L.map (·.name) = M.L.map (·.name)) : (onS nm M k).2.L.map (·.name) = M.L.map (·.name) := by
  unfold onS
  split
  · rfl
  · cases h : getF nm M.L with
    | none => rfl
    | some y => exact hk y h
theorem flush_names {M : RS} (hM : M.ok) (nm : List UInt8) : (flushS nm M).2.L.map (·.name) = M.L.map (·.name) := on_names nm _ fun y hy => by
  rcases chg_L M (insS { y with safe := y.bytes.length } M.L) with e | e <;> rw [e]
  exact ins_names hM.srt (by show (getF y.name M.L).isSome = true; rw [getF_name hy, hy]; rfl)
theorem cut_names {M : RS} (hM : M.ok) (nm : List UInt8) (n : Int) : (cutS nm n M).2.L.map (·.name) = M.L.map (·.name) := on_names nm _ fun y hy => by
  split
  · rfl
  · rcases chg_L M _ with e | e <;> rw [e]
    exact ins_names hM.srt (by show (getF y.name M.L).isSome = true; rw [getF_name hy, hy]; rfl)

def jturn (p : List UInt8) (M : RS) : Int × RS := addS (fileN p (lastN p M.L + 1)) [] M
theorem jturn_segs {p : List UInt8} {M : RS} (hM : M.ok) (h9 : lastN p M.L < 9999999) : ((jturn p M).1 = 0 → segsL p (jturn p M).2.L = segsL p M.L ++ [lastN p M.L + 1] ∧ M.gone = false ∧ (jturn p M).2.gone = false ∧ getF (fileN p (lastN p M.L + 1)) (jturn p M).2.L = some ⟨fileN p (lastN p M.L + 1), [], 0⟩ ∧ (∀ m, m ≠ fileN p (lastN p M.L + 1) → getF m (jturn p M).2.L = getF m M.L)) ∧ ((jturn p M).1 ≠ 0 → (jturn p M).2.L = M.L) := by
  unfold jturn addS
  split
  · rename_i ha
    have hg := (adm_zero ha).1
    obtain ⟨hnone, hseg⟩ := segs_next (y := addF (fileN p (lastN p M.L + 1)) [] M.L) hM.srt rfl h9 (addF_name _ _ _)
    rw [addF_name] at hnone
    refine ⟨fun h0 => ?_, fun h0 => ?_⟩
    · obtain ⟨e1, e2⟩ := chg_zero h0
      refine ⟨by rw [e1]; exact hseg, hg, by rw [e2]; exact hg, ?_, fun m hm => ?_⟩
      · rw [e1, getF_ins _ hM.srt, addF_name, if_pos rfl]
        unfold addF; rw [hnone]
      · rw [e1, getF_ins _ hM.srt, addF_name, if_neg hm]
    · unfold chgS at h0 ⊢
      split
      · exact turn_L M
      · rename_i ht; rw [if_neg ht] at h0; exact absurd rfl h0
  · rename_i ha
    exact ⟨fun h0 => absurd h0 ha, fun _ => rfl⟩
theorem last_append (l : List Nat) (n : Nat) : (l ++ [n]).getLast?.getD 0 = n := by rw [List.getLast?_concat]; rfl
theorem jturn_last {p : List UInt8} {M : RS} (hM : M.ok) (h9 : lastN p M.L < 9999999) (h0 : (jturn p M).1 = 0) : lastN p (jturn p M).2.L = lastN p M.L + 1 := by
  show (segsL p (jturn p M).2.L).getLast?.getD 0 = _
  rw [((jturn_segs hM h9).1 h0).1, last_append]
theorem gone_add {M : RS} (h : M.gone = true) (nm t : List UInt8) : addS nm t M = (7, M) := by
  unfold addS admS; rw [h]; rfl

def bytesOf (nm : List UInt8) (M : RS) : List UInt8 := match getF nm M.L with | some y => y.bytes | none => []
def jroom (p : List UInt8) (most : Int) (M : RS) : Int × RS := if bytesOf (fileN p (lastN p M.L)) M ≠ [] ∧ most ≤ ((bytesOf (fileN p (lastN p M.L)) M).length : Int) then jturn p M else (0, M)
def jput (nm t : List UInt8) (M : RS) : Int × RS := if (addS nm t M).1 ≠ 0 then addS nm t M else flushS nm (addS nm t M).2
def jwrite (p : List UInt8) (most : Int) (l : List (List UInt8)) (M : RS) : Int × RS :=
  if (batchS l).2 ≠ 0 then ((batchS l).2, M) else if M.gone = true then (7, M) else
  if (jroom p most M).1 ≠ 0 then jroom p most M else jput (fileN p (lastN p (jroom p most M).2.L)) (frameL (batchS l).1) (jroom p most M).2
def trimL (p : List UInt8) (before : Int) : List Nat → RS → Int × RS
  | [], M => (0, M)
  | [_], M => (0, M)
  | n :: m :: r, M => if (n : Int) < before then (if (dropS (fileN p n) M).1 = 0 then trimL p before (m :: r) (dropS (fileN p n) M).2 else dropS (fileN p n) M) else (0, M)
def jtrim (p : List UInt8) (before : Int) (M : RS) : Int × RS := trimL p before (segsL p M.L) M
def mendS (nm : List UInt8) (k : Int) (M : RS) : Int × RS := if (cutS nm k M).1 ≠ 0 then cutS nm k M else flushS nm (cutS nm k M).2
def readSegs (p : List UInt8) : List Nat → RS → Int × List (List (List UInt8)) × RS
  | [], M => (0, [], M)
  | n :: r, M =>
    if (readL (bytesOf (fileN p n) M)).2.2 = 0 then
      if (readSegs p r M).1 = 0 then (0, (readL (bytesOf (fileN p n) M)).1 ++ (readSegs p r M).2.1, (readSegs p r M).2.2) else ((readSegs p r M).1, [], (readSegs p r M).2.2)
    else if r ≠ [] then ((readL (bytesOf (fileN p n) M)).2.2, [], M)
    else if (mendS (fileN p n) ((readL (bytesOf (fileN p n) M)).2.1 : Nat) M).1 = 0 then (0, (readL (bytesOf (fileN p n) M)).1, (mendS (fileN p n) ((readL (bytesOf (fileN p n) M)).2.1 : Nat) M).2)
    else ((mendS (fileN p n) ((readL (bytesOf (fileN p n) M)).2.1 : Nat) M).1, [], (mendS (fileN p n) ((readL (bytesOf (fileN p n) M)).2.1 : Nat) M).2)
def jopen (p : List UInt8) (M : RS) : Int × List (List (List UInt8)) × RS :=
  if nameJ p = false then (3, [], M) else if M.gone = true then (7, [], M) else
  if segsL p M.L = [] then ((jturn p M).1, [], (jturn p M).2) else readSegs p (segsL p M.L) M

theorem mend_ok {M : RS} (h : M.ok) (nm : List UInt8) (k : Int) : (mendS nm k M).2.ok := by
  unfold mendS
  split
  · exact cut_ok h _ _
  · exact flush_ok (cut_ok h _ _) _
theorem mend_names {M : RS} (h : M.ok) (nm : List UInt8) (k : Int) : (mendS nm k M).2.L.map (·.name) = M.L.map (·.name) := by
  unfold mendS
  split
  · exact cut_names h _ _
  · exact (flush_names (cut_ok h _ _) _).trans (cut_names h _ _)
theorem read_ok (p : List UInt8) : ∀ (l : List Nat) {M : RS} (h : M.ok), (readSegs p l M).2.2.ok ∧ (readSegs p l M).2.2.L.map (·.name) = M.L.map (·.name)
  | [], M, h => ⟨h, rfl⟩
  | n :: r, M, h => by
    have ih := read_ok p r h
    simp only [readSegs]
    split
    · split
      · exact ih
      · exact ih
    · split
      · exact ⟨h, rfl⟩
      · split
        · exact ⟨mend_ok h _ _, mend_names h _ _⟩
        · exact ⟨mend_ok h _ _, mend_names h _ _⟩
theorem jturn_ok {M : RS} (h : M.ok) (p : List UInt8) : (jturn p M).2.ok := add_ok h _ _
theorem jopen_ok (p : List UInt8) {M : RS} (h : M.ok) : (jopen p M).2.2.ok := by
  unfold jopen
  split
  · exact h
  · split
    · exact h
    · split
      · exact jturn_ok h p
      · exact (read_ok p _ h).1
theorem jroom_ok {M : RS} (h : M.ok) (p : List UInt8) (most : Int) : (jroom p most M).2.ok := by
  unfold jroom; split; exact jturn_ok h p; exact h
theorem jput_ok {M : RS} (h : M.ok) (nm t : List UInt8) : (jput nm t M).2.ok := by
  unfold jput; split; exact add_ok h _ _; exact flush_ok (add_ok h _ _) _
theorem jwrite_ok {M : RS} (h : M.ok) (p : List UInt8) (most : Int) (l : List (List UInt8)) : (jwrite p most l M).2.ok := by
  unfold jwrite
  split
  · exact h
  · split
    · exact h
    · split
      · exact jroom_ok h p most
      · exact jput_ok (jroom_ok h p most) _ _
theorem trim_ok (p : List UInt8) (before : Int) : ∀ (l : List Nat) {M : RS} (h : M.ok), (trimL p before l M).2.ok
  | [], M, h => h
  | [_], M, h => h
  | n :: m :: r, M, h => by
    simp only [trimL]
    split
    · split
      · exact trim_ok p before (m :: r) (drop_ok h _)
      · exact drop_ok h _
    · exact h
end Go.Proofs.YtedopiojidaeiaaGreatDoor
