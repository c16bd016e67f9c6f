/- JName, JOps, JList, JFirst, JRRead, JNum, JRNum, laid together. -/
import Derived.Test.YtfbiinnenlgkfaaGreatDoorR19
import Derived.Test.YtfbiinnenlgkfaaGreatDoorR22
import Derived.Test.YtfbiinnenlgkfaaGreatDoorR24
import Derived.Test.YtfbiinnenlgkfaaGreatDoorR7
import Derived.Lib.AtoiAllCases
import Derived.Test.YtfbiinnenlgkfaaGreatDoorR2
import Derived.Test.YtfbiinnenlgkfaaGreatDoorR18
import Derived.Test.YtfbiinnenlgkfaaGreatDoorR21
set_option linter.unusedSimpArgs false
set_option linter.unusedVariables false
namespace Go.Proofs.YtfbiinnenlgkfaaGreatDoor
open Go.RowKit Go.Deep

def letJ (c : UInt8) : Bool := decide (97 ≤ c.toNat) && decide (c.toNat ≤ 122)
def nameJ (l : List UInt8) : Bool := l.all letJ && (decide (1 ≤ l.length) && decide (l.length ≤ 8))
theorem nameJ_bad (l : List UInt8) (k : Nat) (h : k < l.length) (hb : letJ l[k] = false) : nameJ l = false := by
 have : l.all letJ = false := by
  rw [List.all_eq_false]
  exact ⟨l[k], List.getElem_mem h, by simp [hb]⟩
 unfold nameJ
 rw [this]; rfl
theorem letJ_ways (c : UInt8) : (letJ c = true ∧ ¬ (c.toNat : Int) < 97 ∧ ¬ (122 : Int) < (c.toNat : Int)) ∨ (letJ c = false ∧ (c.toNat : Int) < 97) ∨ (letJ c = false ∧ ¬ (c.toNat : Int) < 97 ∧ (122 : Int) < (c.toNat : Int)) := by
 unfold letJ
 by_cases h1 : c.toNat < 97
 ·exact Or.inr (Or.inl ⟨by simp; omega, by omega⟩)
 ·by_cases h2 : 122 < c.toNat
  ·exact Or.inr (Or.inr ⟨by simp; omega, by omega, by omega⟩)
  ·exact Or.inl ⟨by simp; omega, by omega, by omega⟩
theorem allJ_take (l : List UInt8) (k : Nat) (h : k < l.length) (h1 : (l.take k).all letJ = true) (h2 : letJ l[k] = true) : (l.take (k + 1)).all letJ = true := by
 rw [List.take_add_one, List.getElem?_eq_getElem h, List.all_append, h1]
 simp [h2]
def NjRel (l : List UInt8) (i : Value) : Prop := ∃ k : Nat, i = .int .i64 k ∧ k ≤ l.length ∧ (l.take k).all letJ = true

set_option maxHeartbeats 4000000 in
theorem jisname_any (s : ByteArray) (w : World) (hs : s.size ≤ maxLen) :
  Calls Tryz.prog 93 #[.string s] w fun e w' => e = .returned (.bool (nameJ s.data.toList)) ∧ Drw w w' := by
 unfold maxLen at hs
 have hsl : s.data.toList.length = s.size := rfl
 by_cases h0 : s.size = 0
 ·obtain rfl : s = ⟨#[]⟩ := by apply ByteArray.ext; exact Array.eq_empty_of_size_eq_zero h0
  have HN := Lib.hid (show nameJ ((⟨#[]⟩ : ByteArray)).data.toList = false from rfl)
  clear hsl h0
  go_enter Tryz.func93, Tryz.ntmps93
  go_wp2_with (fail)
  go_ret
  exact ⟨by rw [HN.out]; rfl, Drw.refl w⟩
 have hne : s.toList.isEmpty = false := by
  rw [ByteArray.toList_eq]
  cases hd : s.data.toList with
  | nil => rw [hd] at hsl; simp at hsl; omega
  | cons => rfl
 by_cases h8 : 8 < s.size
 ·have HN := Lib.hid (show nameJ s.data.toList = false by
   unfold nameJ
   rw [hsl]
   simp; omega)
  clear hsl
  go_enter Tryz.func93, Tryz.ntmps93
  go_wp2_with (fail)
  go_ret
  exact ⟨by rw [HN.out]; rfl, Drw.refl w⟩
 go_enter Tryz.func93, Tryz.ntmps93
 go_wp2_with (fail)
 go_loopw [13] (fun i x => NjRel s.data.toList i ∧ Drw w x) (fun i _ => s.size - (intOf i).toNat)
 case atStart => exact ⟨⟨0, rfl, Nat.zero_le _, rfl⟩, Drw.refl w⟩
 case round =>
  obtain ⟨⟨k, rfl, hk, hall⟩, hw⟩ := hrel
  have HW := Lib.hid hw; clear hw
  have HA := Lib.hid hall; clear hall
  rw [hsl] at hk
  by_cases hlt : k < s.size
  ·have HB := Lib.hid (show letJ s[k] = false → nameJ s.data.toList = false from fun h => nameJ_bad s.data.toList k hlt h)
   have HT := Lib.hid (show letJ s[k] = true → (s.data.toList.take (k + 1)).all letJ = true from fun h => allJ_take s.data.toList k hlt HA.out h)
   rcases letJ_ways s[k] with ⟨hl, h1, h2⟩ | ⟨hl, h1⟩ | ⟨hl, h1, h2⟩
   ·have HT2 := Lib.hid (HT.out hl); clear hl
    go_wp2_with (fail)
    go_roundw
    case rel => exact ⟨⟨k + 1, by go_num, by omega, HT2.out⟩, HW.out⟩
    case measure => simp [intOf]; omega
   ·have HN := Lib.hid (HB.out hl); clear hl
    go_wp2_with (fail)
    go_ret
    exact ⟨by rw [HN.out]; rfl, HW.out⟩
   ·have HN := Lib.hid (HB.out hl); clear hl
    go_wp2_with (fail)
    go_ret
    exact ⟨by rw [HN.out]; rfl, HW.out⟩
  ·obtain rfl : k = s.size := by omega
   have HN := Lib.hid (show nameJ s.data.toList = true by
    have := HA.out
    rw [← hsl, List.take_length] at this
    unfold nameJ
    rw [this, hsl]; simp; omega)
   go_wp2_with (fail)
   go_ret
   exact ⟨by rw [HN.out]; rfl, HW.out⟩
set_option maxHeartbeats 4000000 in
theorem jnamed_any (s : ByteArray) (w : World) (hs : s.size ≤ maxLen) :
  Calls Tryz.prog 98 #[.string s] w fun e w' => e = .returned (.bool (nameJ s.data.toList)) ∧ Drw w w' := by
 unfold maxLen at hs
 have hsl : s.data.toList.length = s.size := rfl
 go_enter Tryz.func98, Tryz.ntmps98
 go_wp2_with (fail)
 go_loopw [3] (fun i x => NjRel s.data.toList i ∧ Drw w x) (fun i _ => s.size - (intOf i).toNat)
 case atStart => exact ⟨⟨0, rfl, Nat.zero_le _, rfl⟩, Drw.refl w⟩
 case round =>
  obtain ⟨⟨k, rfl, hk, hall⟩, hw⟩ := hrel
  have HW := Lib.hid hw; clear hw
  have HA := Lib.hid hall; clear hall
  rw [hsl] at hk
  by_cases hlt : k < s.size
  ·have HB := Lib.hid (show letJ s[k] = false → nameJ s.data.toList = false from fun h => nameJ_bad s.data.toList k hlt h)
   have HT := Lib.hid (show letJ s[k] = true → (s.data.toList.take (k + 1)).all letJ = true from fun h => allJ_take s.data.toList k hlt HA.out h)
   rcases letJ_ways s[k] with ⟨hl, h1, h2⟩ | ⟨hl, h1⟩ | ⟨hl, h1, h2⟩
   ·have HT2 := Lib.hid (HT.out hl); clear hl
    go_wp2_with (fail)
    go_roundw
    case rel => exact ⟨⟨k + 1, by go_num, by omega, HT2.out⟩, HW.out⟩
    case measure => simp [intOf]; omega
   ·have HN := Lib.hid (HB.out hl); clear hl
    go_wp2_with (fail)
    go_ret
    exact ⟨by rw [HN.out]; rfl, HW.out⟩
   ·have HN := Lib.hid (HB.out hl); clear hl
    go_wp2_with (fail)
    go_ret
    exact ⟨by rw [HN.out]; rfl, HW.out⟩
  ·obtain rfl : k = s.size := by omega
   have hall := HA.out
   rw [← hsl, List.take_length] at hall
   have HN := Lib.hid (show nameJ s.data.toList = (decide (1 ≤ s.size) && decide (s.size ≤ 8)) by
    unfold nameJ
    rw [hall, hsl]; simp)
   clear hall
   by_cases h1 : s.size = 0
   ·go_wp2_with (fail)
    go_ret
    exact ⟨by rw [HN.out, h1]; rfl, HW.out⟩
   ·by_cases h8 : 8 < s.size
    ·have HN8 := Lib.hid (show nameJ s.data.toList = false by rw [HN.out]; simp; omega)
     go_wp2_with (fail)
     go_ret
     exact ⟨by rw [HN8.out]; show Ending.returned (.bool (decide ((s.size : Int) ≤ 8))) = _; rw [decide_eq_false (by omega)], HW.out⟩
    ·have HN8 := Lib.hid (show nameJ s.data.toList = true by rw [HN.out]; simp; omega)
     go_wp2_with (fail)
     go_ret
     exact ⟨by rw [HN8.out]; show Ending.returned (.bool (decide ((s.size : Int) ≤ 8))) = _; rw [decide_eq_true (by omega)], HW.out⟩

structure JAt (x : World) (b f : Nat) (p : ByteArray) (most : Int) : Prop where
 files : x.cell? ⟨b, 0, none⟩ = some (.pointer (some ⟨f, 0, none⟩))
 name : x.cell? ⟨b, 1, none⟩ = some (.string p)
 most : x.cell? ⟨b, 2, none⟩ = some (.int .i64 most)
theorem JAt.lt {x : World} {b f : Nat} {p : ByteArray} {most : Int} (h : JAt x b f p most) : b < x.heap.size := block_lt_of_cell h.files
theorem JAt.keep {x y : World} {b f : Nat} {p : ByteArray} {most : Int} (h : JAt x b f p most) (hk : y.heap[b]? = x.heap[b]?) : JAt y b f p most :=
 ⟨(World.cell?_of_block hk).trans h.files, (World.cell?_of_block hk).trans h.name, (World.cell?_of_block hk).trans h.most⟩
theorem JAt.bel {x y : World} {b f : Nat} {p : ByteArray} {most : Int} (h : JAt x b f p most) (hb : Bel x y) : JAt y b f p most := h.keep (Below.block hb b h.lt)
theorem ba_file (p : ByteArray) (n : Nat) : p ++ ⟨#[46]⟩ ++ ⟨(Lib.itoa (n : Int)).toArray⟩ = (⟨(fileN p.data.toList n).toArray⟩ : ByteArray) := by
 apply ByteArray.ext; simp [fileN]
theorem itoa_short {n : Nat} (hn : n ≤ 10000000) : (Lib.itoa (n : Int)).length ≤ 21 := Lib.itoa_length_le n (by omega) (by omega)
theorem file_len (p : List UInt8) {n : Nat} (hn : n ≤ 10000000) : (fileN p n).length ≤ p.length + 22 := by
 have := itoa_short hn
 unfold fileN; rw [List.length_append, List.length_cons]; omega

set_option maxHeartbeats 4000000 in
set_option maxRecDepth 20000 in
theorem file_any (w : World) (b f : Nat) (p : ByteArray) (most : Int) (n : Nat) (h : JAt w b f p most) (hp : p.size ≤ 100) (hn : n ≤ 10000000) (hstd : Std w) :
  Calls Tryz.prog 84 #[.pointer (some ⟨b, 0, none⟩), .int .i64 n] w fun e w' => e = .returned (.string ⟨(fileN p.data.toList n).toArray⟩) ∧ Bel w w' := by
 have HS := Lib.hid hstd; clear hstd
 have hil := itoa_short hn
 have hiz := str_len (Lib.itoa (n : Int))
 have c1 := h.name
 have n1 : ¬ 9223372036854775807 < p.size + 1 := by omega
 go_enter Tryz.func84, Tryz.ntmps84
 go_wp2_with (fail)
 refine wp_region_held_drew (S := fun z => z.cell? ⟨b, 1, none⟩ = some (.string p)) (by kernel_rfl) c1 (fun hHeld => ?_)
 refine tq ⟨some 5, .move (.tmp 0), 108, "journal.go:145", #[], none⟩ ?_ 0 rfl ?_ ?_;rotate_left;·(intros;go_simp<;>with_reducible rfl)
 try simp only[Act.put,sqA,sqB,sqC]
 refine tq ⟨some 6, .nilCheck (.tmp 5), 0, "journal.go:145", #[⟨0, .data⟩], none⟩ ?_ 1 rfl ?_ ?_;rotate_left;·(intros;go_simp<;>with_reducible rfl)
 try simp only[Act.put,sqA,sqB,sqC]
 refine tq ⟨some 7, .fieldAddr 153 (.tmp 6) 1, 0, "journal.go:145", #[⟨1, .data⟩], none⟩ ?_ 2 rfl ?_ ?_;rotate_left;·(intros;go_simp<;>with_reducible rfl)
 try simp only[Act.put,sqA,sqB,sqC]
 refine tq ⟨some 8, .load 9 (.tmp 7), 9, "journal.go:145", #[⟨2, .data⟩], none⟩ ?_ 3 rfl ?_ ?_;rotate_left;·(intros;go_simp<;>with_reducible rfl)
 try simp only[Act.put,sqA,sqB,sqC]
 refine tq ⟨some 9, .binOp .add 9 (.tmp 8) (.const (.string { data := #[46] })) 9, 9, "journal.go:145", #[⟨3, .data⟩], none⟩ ?_ 4 rfl ?_ ?_;rotate_left;·(intros;go_simp<;>with_reducible rfl)
 try simp only[Act.put,sqA,sqB,sqC]
 refine tq ⟨some 10, .move (.tmp 1), 3, "journal.go:145", #[], none⟩ ?_ 5 rfl ?_ ?_;rotate_left;·(intros;go_simp<;>with_reducible rfl)
 try simp only[Act.put,sqA,sqB,sqC]
 refine wpAnyH_ready (rs := [6]) (by kernel_rfl) (by simp) ?_
 refine ar1 ⟨some 11, .call ⟨.value (.func 116), #[.tmp 10], #[3]⟩, 9, "journal.go:145", #[⟨5, .data⟩], none⟩ rfl (fun K hK => ?_)
 go_simp
 refine (itoa_any n (by omega) (by omega) _ HS.out.drew).mono ?_
 rintro e w1 ⟨rfl, hb1⟩
 have HB := Lib.hid ((Bel.refl w).drew.trans hb1)
 have c2 := cell_later HB.out c1
 clear hb1
 dsimp only
 refine hK.out _ _ c2 (fun hHeld => ?_);clear hK K;try simp only[Act.put,sqA,sqB,sqC]
 refine tq ⟨some 12, .binOp .add 9 (.tmp 9) (.tmp 11) 9, 9, "journal.go:145", #[⟨4, .data⟩, ⟨6, .data⟩], none⟩ ?_ 7 rfl ?_ ?_
 rotate_left
 ·(intro w hSw; (try dsimp only at hSw); first | (go_simp; rw [if_neg (by omega)]; done))
 try simp only[Act.put,sqA,sqB,sqC]
 refine tq ⟨some 4, .assign (.tmp 12), 9, "journal.go:145", #[⟨7, .data⟩, ⟨6, .chain⟩, ⟨0, .phase⟩, ⟨1, .phase⟩, ⟨2, .phase⟩, ⟨3, .phase⟩, ⟨4, .phase⟩, ⟨5, .phase⟩, ⟨6, .phase⟩, ⟨7, .phase⟩], none⟩ ?_ 8 rfl ?_ ?_;rotate_left;·(intros;go_simp<;>with_reducible rfl)
 try simp only[Act.put,sqA,sqB,sqC]
 refine wpAnyH_done (by kernel_rfl) ?_ _
 go_wp2_with (fail)
 go_ret
 exact ⟨by rw [← ba_file]; rfl, HB.out⟩
set_option maxHeartbeats 4000000 in
set_option maxRecDepth 20000 in
theorem rfile_any (w : World) (b f : Nat) (p : ByteArray) (most : Int) (n : Nat) (h : JAt w b f p most) (hp : p.size ≤ 100) (hn : n ≤ 10000000) :
  Calls Tryz.prog 100 #[.pointer (some ⟨b, 0, none⟩), .int .i64 n] w fun e w' => e = .returned (.string ⟨(fileN p.data.toList n).toArray⟩) ∧ Bel w w' := by
 have hil := itoa_short hn
 have hiz := str_len (Lib.itoa (n : Int))
 have c1 := h.name
 have n1 : ¬ 9223372036854775807 < p.size + 1 := by omega
 go_enter Tryz.func100, Tryz.ntmps100
 go_wp2_with (fail)
 refine wp_region_held_drew (S := fun z => z.cell? ⟨b, 1, none⟩ = some (.string p)) (by kernel_rfl) c1 (fun hHeld => ?_)
 refine tq ⟨some 5, .move (.tmp 0), 60, "ref.go:92", #[], none⟩ ?_ 0 rfl ?_ ?_;rotate_left;·(intros;go_simp<;>with_reducible rfl)
 try simp only[Act.put,sqA,sqB,sqC]
 refine tq ⟨some 6, .nilCheck (.tmp 5), 0, "ref.go:92", #[⟨0, .data⟩], none⟩ ?_ 1 rfl ?_ ?_;rotate_left;·(intros;go_simp<;>with_reducible rfl)
 try simp only[Act.put,sqA,sqB,sqC]
 refine tq ⟨some 7, .fieldAddr 169 (.tmp 6) 1, 0, "ref.go:92", #[⟨1, .data⟩], none⟩ ?_ 2 rfl ?_ ?_;rotate_left;·(intros;go_simp<;>with_reducible rfl)
 try simp only[Act.put,sqA,sqB,sqC]
 refine tq ⟨some 8, .load 9 (.tmp 7), 9, "ref.go:92", #[⟨2, .data⟩], none⟩ ?_ 3 rfl ?_ ?_;rotate_left;·(intros;go_simp<;>with_reducible rfl)
 try simp only[Act.put,sqA,sqB,sqC]
 refine tq ⟨some 9, .binOp .add 9 (.tmp 8) (.const (.string { data := #[46] })) 9, 9, "ref.go:92", #[⟨3, .data⟩], none⟩ ?_ 4 rfl ?_ ?_;rotate_left;·(intros;go_simp<;>with_reducible rfl)
 try simp only[Act.put,sqA,sqB,sqC]
 refine tq ⟨some 10, .move (.tmp 1), 3, "ref.go:92", #[], none⟩ ?_ 5 rfl ?_ ?_;rotate_left;·(intros;go_simp<;>with_reducible rfl)
 try simp only[Act.put,sqA,sqB,sqC]
 refine wpAnyH_ready (rs := [6]) (by kernel_rfl) (by simp) ?_
 refine ar1 ⟨some 11, .call ⟨.value (.func 127), #[.tmp 10], #[3]⟩, 9, "ref.go:92", #[⟨5, .data⟩], none⟩ rfl (fun K hK => ?_)
 go_simp
 refine (ref_decimal_any n (by omega) (by omega) _).mono ?_
 rintro e w1 ⟨rfl, hb1⟩
 have HB := Lib.hid ((Bel.refl w).drew.trans hb1.bel)
 have c2 := cell_later HB.out c1
 clear hb1
 dsimp only
 refine hK.out _ _ c2 (fun hHeld => ?_);clear hK K;try simp only[Act.put,sqA,sqB,sqC]
 refine tq ⟨some 12, .binOp .add 9 (.tmp 9) (.tmp 11) 9, 9, "ref.go:92", #[⟨4, .data⟩, ⟨6, .data⟩], none⟩ ?_ 7 rfl ?_ ?_
 rotate_left
 ·(intro w hSw; (try dsimp only at hSw); first | (go_simp; rw [if_neg (by omega)]; done))
 try simp only[Act.put,sqA,sqB,sqC]
 refine tq ⟨some 4, .assign (.tmp 12), 9, "ref.go:92", #[⟨7, .data⟩, ⟨6, .chain⟩, ⟨0, .phase⟩, ⟨1, .phase⟩, ⟨2, .phase⟩, ⟨3, .phase⟩, ⟨4, .phase⟩, ⟨5, .phase⟩, ⟨6, .phase⟩, ⟨7, .phase⟩], none⟩ ?_ 8 rfl ?_ ?_;rotate_left;·(intros;go_simp<;>with_reducible rfl)
 try simp only[Act.put,sqA,sqB,sqC]
 refine wpAnyH_done (by kernel_rfl) ?_ _
 go_wp2_with (fail)
 go_ret
 exact ⟨by rw [← ba_file]; rfl, HB.out⟩
end Go.Proofs.YtfbiinnenlgkfaaGreatDoor
namespace Go.Proofs.YtfbiinnenlgkfaaGreatDoor

theorem mem_segs_get {p : List UInt8} {L : List FI} (hs : Srt L) {n : Nat} : n ∈ segsL p L ↔ 1 ≤ n ∧ n ≤ 9999999 ∧ (getF (fileN p n) L).isSome = true := by
 rw [mem_segs_file]
 constructor
 ·rintro ⟨h1, h2, x, hx, hn⟩
  refine ⟨h1, h2, ?_⟩
  rw [← hn, getF_of_mem hs hx]; rfl
 ·rintro ⟨h1, h2, h3⟩
  obtain ⟨x, hx⟩ := Option.isSome_iff_exists.1 h3
  exact ⟨h1, h2, x, getF_mem hx, getF_name hx⟩
theorem segs_names {p : List UInt8} {L K : List FI} (h : L.map (·.name) = K.map (·.name)) : segsL p L = segsL p K := by
 have e : ∀ L : List FI, segsL p L = (L.map (·.name)).foldl (fun out nm => if segN p nm = 0 then out else insN (segN p nm) out) [] := fun L => by
  unfold segsL; rw [List.foldl_map]
 rw [e, e, h]
theorem last_names {p : List UInt8} {L K : List FI} (h : L.map (·.name) = K.map (·.name)) : lastN p L = lastN p K := by unfold lastN; rw [segs_names h]
theorem ins_names {y : FI} {L : List FI} (hs : Srt L) (h : (getF y.name L).isSome = true) : (insS y L).map (·.name) = L.map (·.name) := by
 induction L with
 | nil => cases h
 | cons x L ih =>
  rw [srt_cons] at hs
  rw [getF_cons] at h
  rw [ins_cons]
  by_cases hb : Op.bytesLess x.name y.name = true
  ·rw [if_pos hb, List.map_cons, List.map_cons, ih hs.2 (by rwa [if_neg (bl_ne hb)] at h)]
  ·rw [if_neg hb]
   by_cases he : x.name = y.name
   ·rw [if_pos he, List.map_cons, List.map_cons, he]
   ·rw [Bool.not_eq_true] at hb
    rw [if_neg he, getF_low (fun z hz => bl_trans (bl_total hb he) (hs.1 z hz))] at h
    cases h
theorem ins_perm' {y : FI} {L : List FI} (hs : Srt L) (h : getF y.name L = none) : (insS y L).Perm (y :: L) := by
 induction L with
 | nil => exact List.Perm.refl _
 | cons x L ih =>
  rw [srt_cons] at hs
  rw [getF_cons] at h
  rw [ins_cons]
  by_cases he : x.name = y.name
  ·rw [if_pos he] at h; cases h
  ·rw [if_neg he] at h
   by_cases hb : Op.bytesLess x.name y.name = true
   ·rw [if_pos hb]
    exact ((ih hs.2 h).cons x).trans (List.Perm.swap y x L)
   ·rw [if_neg hb, if_neg he]
theorem out_perm {nm : List UInt8} {L : List FI} {y : FI} (hs : Srt L) (h : getF nm L = some y) : L.Perm (y :: outS nm L) := by
 induction L with
 | nil => cases h
 | cons x L ih =>
  rw [srt_cons] at hs
  rw [getF_cons] at h
  rw [out_cons]
  by_cases hb : Op.bytesLess x.name nm = true
  ·rw [if_neg (bl_ne hb)] at h
   rw [if_pos hb]
   exact ((ih hs.2 h).cons x).trans (List.Perm.swap y x _)
  ·rw [if_neg hb]
   by_cases he : x.name = nm
   ·rw [if_pos he] at h ⊢
    obtain rfl : x = y := by simpa using h
    exact List.Perm.refl _
   ·rw [Bool.not_eq_true] at hb
    rw [if_neg he, getF_low (fun z hz => bl_trans (bl_total hb he) (hs.1 z hz))] at h
    cases h
theorem col_perm {p : List UInt8} {L K : List FI} (h : L.Perm K) : (colL p L).Perm (colL p K) := (h.map _).filter _
theorem segs_of_perm {p : List UInt8} {L : List FI} {l : List Nat} (h : (colL p L).Perm l) (hl : l.Pairwise (· ≤ ·)) : segsL p L = l :=
 List.Perm.eq_of_pairwise (le := fun x y : Nat => x ≤ y) (fun a b _ _ h1 h2 => Nat.le_antisymm h1 h2) (segs_sorted p L) hl ((segs_perm p L).trans h)
theorem segs_next {p : List UInt8} {L : List FI} {y : FI} {n : Nat} (hs : Srt L) (hn : n = lastN p L) (h9 : n < 9999999) (hy : y.name = fileN p (n + 1)) : getF y.name L = none ∧ segsL p (insS y L) = segsL p L ++ [n + 1] := by
 have hnone : getF y.name L = none := by
  cases h : getF y.name L with
  | none => rfl
  | some x =>
   exfalso
   have : n + 1 ∈ segsL p L := (mem_segs_get hs).2 ⟨by omega, by omega, by rw [← hy, h]; rfl⟩
   have := last_max this
   omega
 refine ⟨hnone, segs_of_perm ?_ ?_⟩
 ·refine (col_perm (ins_perm' hs hnone)).trans ?_
  have : colL p (y :: L) = (n + 1) :: colL p L := by
   unfold colL
   rw [List.map_cons, hy, seg_file p (n + 1) (by omega) (by omega), List.filter_cons]
   simp
  rw [this]
  exact ((segs_perm p L).symm.cons _).trans (List.perm_append_singleton _ _).symm
 ·rw [List.pairwise_append]
  refine ⟨segs_sorted p L, List.pairwise_singleton .., fun a ha b hb => ?_⟩
  rw [List.mem_singleton] at hb
  have := last_max ha
  omega
theorem segs_out {p : List UInt8} {L : List FI} {m : Nat} {r : List Nat} (hs : Srt L) (h : segsL p L = m :: r) : segsL p (outS (fileN p m) L) = r := by
 have hm : m ∈ segsL p L := by rw [h]; simp
 obtain ⟨h1, h2, h3⟩ := (mem_segs_get hs).1 hm
 obtain ⟨y, hy⟩ := Option.isSome_iff_exists.1 h3
 have hsort := segs_sorted p L
 rw [h] at hsort
 refine segs_of_perm ?_ (List.pairwise_cons.1 hsort).2
 have hp := (col_perm (p := p) (out_perm hs hy)).symm.trans ((segs_perm p L).symm)
 rw [h] at hp
 have e : colL p (y :: outS (fileN p m) L) = m :: colL p (outS (fileN p m) L) := by
  unfold colL
  rw [List.map_cons, getF_name hy, seg_file p m h1 h2, List.filter_cons]
  simp; omega
 rw [e] at hp
 exact hp.cons_inv
theorem chg_L (M : RS) (L' : List FI) : (chgS M L').2.L = M.L ∨ (chgS M L').2.L = L' := by
 unfold chgS
 split
 ·exact Or.inl (turn_L M)
 ·exact Or.inr rfl
theorem chg_zero {M : RS} {L' : List FI} (h : (chgS M L').1 = 0) : (chgS M L').2.L = L' ∧ (chgS M L').2.gone = M.gone := by
 unfold chgS at h ⊢
 split
 ·rename_i h0; rw [if_pos h0] at h; cases h
 ·rename_i h0
  refine ⟨rfl, ?_⟩
  unfold turnS
  rw [if_neg h0]
  split <;> rfl
theorem add_names {M : RS} (hM : M.ok) {nm : List UInt8} (h : (getF nm M.L).isSome = true) (t : List UInt8) : (addS nm t M).2.L.map (·.name) = M.L.map (·.name) := by
 unfold addS
 split
 ·rcases chg_L M (insS (addF nm t M.L) M.L) with e | e <;> rw [e]
  exact ins_names hM.srt (by rw [addF_name]; exact h)
 ·rfl
theorem on_names {M : RS} (nm : List UInt8) (k : FI → Int × RS) (hk : ∀ y, getF nm M.L = some y → (k y).2.L.map (·.name) = M.L.map (·.name)) : (onS nm M k).2.L.map (·.name) = M.L.map (·.name) := by
 unfold onS
 split
 ·rfl
 ·cases h : getF nm M.L with
  | none => rfl
  | some y => exact hk y h
theorem flush_names {M : RS} (hM : M.ok) (nm : List UInt8) : (flushS nm M).2.L.map (·.name) = M.L.map (·.name) := on_names nm _ fun y hy => by
 rcases chg_L M (insS { y with safe := y.bytes.length } M.L) with e | e <;> rw [e]
 exact ins_names hM.srt (by show (getF y.name M.L).isSome = true; rw [getF_name hy, hy]; rfl)
theorem cut_names {M : RS} (hM : M.ok) (nm : List UInt8) (n : Int) : (cutS nm n M).2.L.map (·.name) = M.L.map (·.name) := on_names nm _ fun y hy => by
 split
 ·rfl
 ·rcases chg_L M _ with e | e <;> rw [e]
  exact ins_names hM.srt (by show (getF y.name M.L).isSome = true; rw [getF_name hy, hy]; rfl)

def jturn (p : List UInt8) (M : RS) : Int × RS := addS (fileN p (lastN p M.L + 1)) [] M
theorem jturn_segs {p : List UInt8} {M : RS} (hM : M.ok) (h9 : lastN p M.L < 9999999) : ((jturn p M).1 = 0 → segsL p (jturn p M).2.L = segsL p M.L ++ [lastN p M.L + 1] ∧ M.gone = false ∧ (jturn p M).2.gone = false ∧ getF (fileN p (lastN p M.L + 1)) (jturn p M).2.L = some ⟨fileN p (lastN p M.L + 1), [], 0⟩ ∧ (∀ m, m ≠ fileN p (lastN p M.L + 1) → getF m (jturn p M).2.L = getF m M.L)) ∧ ((jturn p M).1 ≠ 0 → (jturn p M).2.L = M.L) := by
 unfold jturn addS
 split
 ·rename_i ha
  have hg := (adm_zero ha).1
  obtain ⟨hnone, hseg⟩ := segs_next (y := addF (fileN p (lastN p M.L + 1)) [] M.L) hM.srt rfl h9 (addF_name _ _ _)
  rw [addF_name] at hnone
  refine ⟨fun h0 => ?_, fun h0 => ?_⟩
  ·obtain ⟨e1, e2⟩ := chg_zero h0
   refine ⟨by rw [e1]; exact hseg, hg, by rw [e2]; exact hg, ?_, fun m hm => ?_⟩
   ·rw [e1, getF_ins _ hM.srt, addF_name, if_pos rfl]
    unfold addF; rw [hnone]
   ·rw [e1, getF_ins _ hM.srt, addF_name, if_neg hm]
  ·unfold chgS at h0 ⊢
   split
   ·exact turn_L M
   ·rename_i ht; rw [if_neg ht] at h0; exact absurd rfl h0
 ·rename_i ha
  exact ⟨fun h0 => absurd h0 ha, fun _ => rfl⟩
theorem last_append (l : List Nat) (n : Nat) : (l ++ [n]).getLast?.getD 0 = n := by rw [List.getLast?_concat]; rfl
theorem jturn_last {p : List UInt8} {M : RS} (hM : M.ok) (h9 : lastN p M.L < 9999999) (h0 : (jturn p M).1 = 0) : lastN p (jturn p M).2.L = lastN p M.L + 1 := by
 show (segsL p (jturn p M).2.L).getLast?.getD 0 = _
 rw [((jturn_segs hM h9).1 h0).1, last_append]
def bytesOf (nm : List UInt8) (M : RS) : List UInt8 := match getF nm M.L with | some y => y.bytes | none => []
def jroom (p : List UInt8) (most : Int) (M : RS) : Int × RS := if bytesOf (fileN p (lastN p M.L)) M ≠ [] ∧ most ≤ ((bytesOf (fileN p (lastN p M.L)) M).length : Int) then jturn p M else (0, M)
def jput (nm t : List UInt8) (M : RS) : Int × RS := if (addS nm t M).1 ≠ 0 then addS nm t M else flushS nm (addS nm t M).2
def jwrite (p : List UInt8) (most : Int) (l : List (List UInt8)) (M : RS) : Int × RS :=
 if (batchS l).2 ≠ 0 then ((batchS l).2, M) else if M.gone = true then (7, M) else
 if (jroom p most M).1 ≠ 0 then jroom p most M else jput (fileN p (lastN p (jroom p most M).2.L)) (frameL (batchS l).1) (jroom p most M).2
def trimL (p : List UInt8) (before : Int) : List Nat → RS → Int × RS
 | [], M => (0, M)
 | [_], M => (0, M)
 | n :: m :: r, M => if (n : Int) < before then (if (dropS (fileN p n) M).1 = 0 then trimL p before (m :: r) (dropS (fileN p n) M).2 else dropS (fileN p n) M) else (0, M)
def jtrim (p : List UInt8) (before : Int) (M : RS) : Int × RS := trimL p before (segsL p M.L) M
def mendS (nm : List UInt8) (k : Int) (M : RS) : Int × RS := if (cutS nm k M).1 ≠ 0 then cutS nm k M else flushS nm (cutS nm k M).2
def readSegs (p : List UInt8) : List Nat → RS → Int × List (List (List UInt8)) × RS
 | [], M => (0, [], M)
 | n :: r, M =>
  if (readL (bytesOf (fileN p n) M)).2.2 = 0 then
   if (readSegs p r M).1 = 0 then (0, (readL (bytesOf (fileN p n) M)).1 ++ (readSegs p r M).2.1, (readSegs p r M).2.2) else ((readSegs p r M).1, [], (readSegs p r M).2.2)
  else if r ≠ [] then ((readL (bytesOf (fileN p n) M)).2.2, [], M)
  else if (mendS (fileN p n) ((readL (bytesOf (fileN p n) M)).2.1 : Nat) M).1 = 0 then (0, (readL (bytesOf (fileN p n) M)).1, (mendS (fileN p n) ((readL (bytesOf (fileN p n) M)).2.1 : Nat) M).2)
  else ((mendS (fileN p n) ((readL (bytesOf (fileN p n) M)).2.1 : Nat) M).1, [], (mendS (fileN p n) ((readL (bytesOf (fileN p n) M)).2.1 : Nat) M).2)
def jopen (p : List UInt8) (M : RS) : Int × List (List (List UInt8)) × RS :=
 if nameJ p = false then (3, [], M) else if M.gone = true then (7, [], M) else
 if segsL p M.L = [] then ((jturn p M).1, [], (jturn p M).2) else readSegs p (segsL p M.L) M

theorem mend_ok {M : RS} (h : M.ok) (nm : List UInt8) (k : Int) : (mendS nm k M).2.ok := by
 unfold mendS
 split
 ·exact cut_ok h _ _
 ·exact flush_ok (cut_ok h _ _) _
theorem mend_names {M : RS} (h : M.ok) (nm : List UInt8) (k : Int) : (mendS nm k M).2.L.map (·.name) = M.L.map (·.name) := by
 unfold mendS
 split
 ·exact cut_names h _ _
 ·exact (flush_names (cut_ok h _ _) _).trans (cut_names h _ _)
theorem read_ok (p : List UInt8) : ∀ (l : List Nat) {M : RS} (h : M.ok), (readSegs p l M).2.2.ok ∧ (readSegs p l M).2.2.L.map (·.name) = M.L.map (·.name)
 | [], M, h => ⟨h, rfl⟩
 | n :: r, M, h => by
  have ih := read_ok p r h
  simp only [readSegs]
  split
  ·split
   ·exact ih
   ·exact ih
  ·split
   ·exact ⟨h, rfl⟩
   ·split
    ·exact ⟨mend_ok h _ _, mend_names h _ _⟩
    ·exact ⟨mend_ok h _ _, mend_names h _ _⟩
theorem jturn_ok {M : RS} (h : M.ok) (p : List UInt8) : (jturn p M).2.ok := add_ok h _ _
theorem jopen_ok (p : List UInt8) {M : RS} (h : M.ok) : (jopen p M).2.2.ok := by
 unfold jopen
 split
 ·exact h
 ·split
  ·exact h
  ·split
   ·exact jturn_ok h p
   ·exact (read_ok p _ h).1
theorem jroom_ok {M : RS} (h : M.ok) (p : List UInt8) (most : Int) : (jroom p most M).2.ok := by
 unfold jroom; split; exact jturn_ok h p; exact h
theorem jput_ok {M : RS} (h : M.ok) (nm t : List UInt8) : (jput nm t M).2.ok := by
 unfold jput; split; exact add_ok h _ _; exact flush_ok (add_ok h _ _) _
theorem jwrite_ok {M : RS} (h : M.ok) (p : List UInt8) (most : Int) (l : List (List UInt8)) : (jwrite p most l M).2.ok := by
 unfold jwrite
 split
 ·exact h
 ·split
  ·exact h
  ·split
   ·exact jroom_ok h p most
   ·exact jput_ok (jroom_ok h p most) _ _
theorem trim_ok (p : List UInt8) (before : Int) : ∀ (l : List Nat) {M : RS} (h : M.ok), (trimL p before l M).2.ok
 | [], M, h => h
 | [_], M, h => h
 | n :: m :: r, M, h => by
  simp only [trimL]
  split
  ·split
   ·exact trim_ok p before (m :: r) (drop_ok h _)
   ·exact drop_ok h _
  ·exact h
end Go.Proofs.YtfbiinnenlgkfaaGreatDoor
namespace Go.Proofs.YtfbiinnenlgkfaaGreatDoor
open Go.RowKit Go.Deep

structure SL where
 p : Option Addr
 len : Nat
 cap : Nat
def SL.val (s : SL) : Value := .slice s.p s.len s.cap
def slEl : El SL := ⟨71, 126, 1, fun s => [s.val]⟩
theorem slOk : ElOk slEl 24 := ⟨fun _ => rfl, fun a u hu => by simp [slEl] at hu; subst hu; rfl, by kernel_rfl, ⟨.slice none 0 0, by kernel_rfl, rfl⟩, by decide⟩
structure SlAt (P : Nat → Prop) (x : World) (s : SL) (l : List (List UInt8)) : Prop where
 len : s.len = l.length
 at_ : StrsAt x s.p l
 blk : l ≠ [] → ∀ a, s.p = some a → P a.block
def IsStr (x : World) (k : Nat) : Prop := ∃ cur fr, x.heap[k]? = some (.cells cur 9 fr)
def Apart (n : Nat) (x : World) (s : SL) (l : List (List UInt8)) : Prop := l ≠ [] → ∀ a, s.p = some a → a.block < n ∨ IsStr x a.block
structure OwnL (n : Nat) (P : Nat → Prop) (B : Nat) (x : World) (v : Value) (L : List (List (List UInt8))) : Prop where
 ex : ∃ H : List SL, OwnG slEl B x v H ∧ H.length = L.length ∧ ∀ (i : Nat) (s : SL) (l : List (List UInt8)), H[i]? = some s → L[i]? = some l → SlAt P x s l ∧ Apart n x s l
theorem StrsAt.keep {x y : World} {p : Option Addr} {l : List (List UInt8)} (h : StrsAt x p l) (hk : l ≠ [] → ∀ a, p = some a → y.heap[a.block]? = x.heap[a.block]?) : StrsAt y p l := by
 intro i hi
 obtain ⟨a, ha, hc⟩ := h i hi
 refine ⟨a, ha, (World.cell?_of_block ?_).trans hc⟩
 rw [add_block]
 exact hk (by rintro rfl; simp at hi) a ha
theorem SlAt.keep {P : Nat → Prop} {x y : World} {s : SL} {l : List (List UInt8)} (h : SlAt P x s l) (hk : ∀ k, P k → y.heap[k]? = x.heap[k]?) : SlAt P y s l :=
 ⟨h.len, h.at_.keep (fun hne a ha => hk _ (h.blk hne a ha)), h.blk⟩
theorem SlAt.bel {P : Nat → Prop} {x y : World} {s : SL} {l : List (List UInt8)} (h : SlAt P x s l) (hb : Bel x y) : SlAt P y s l := ⟨h.len, h.at_.bel hb, h.blk⟩
theorem SlAt.mono {P Q : Nat → Prop} {x : World} {s : SL} {l : List (List UInt8)} (h : SlAt P x s l) (hPQ : ∀ k, P k → Q k) : SlAt Q x s l := ⟨h.len, h.at_, fun hne a ha => hPQ _ (h.blk hne a ha)⟩
theorem strs_lt {x : World} {p : Option Addr} {l : List (List UInt8)} (h : StrsAt x p l) (hne : l ≠ []) : ∀ a, p = some a → a.block < x.heap.size := fun a ha => by
 obtain ⟨a', ha', hc⟩ := h 0 (List.length_pos_iff.2 hne)
 obtain rfl : a = a' := by rw [ha] at ha'; simpa using ha'
 have := block_lt_of_cell hc
 rwa [add_block] at this
theorem Apart.keep {n : Nat} {x y : World} {s : SL} {l : List (List UInt8)} (h : Apart n x s l) (hk : l ≠ [] → ∀ a, s.p = some a → y.heap[a.block]? = x.heap[a.block]?) : Apart n y s l := fun hne a ha =>
 (h hne a ha).imp id (fun ⟨c, f, e⟩ => ⟨c, f, (hk hne a ha).trans e⟩)
theorem Apart.bel {n : Nat} {x y : World} {s : SL} {l : List (List UInt8)} (h : Apart n x s l) (hb : Bel x y) : Apart n y s l := fun hne a ha =>
 (h hne a ha).imp id (fun ⟨c, f, e⟩ => ⟨c, f, (Below.block hb _ (Array.getElem?_eq_some_iff.1 e).1).trans e⟩)
theorem Apart.mono {n m : Nat} {x : World} {s : SL} {l : List (List UInt8)} (h : Apart n x s l) (hn : n ≤ m) : Apart m x s l := fun hne a ha => (h hne a ha).imp (fun h => by omega) id
theorem SlAt.own {B : Nat} {x : World} {v : Value} {l : List (List UInt8)} (h : OwnG strEl B x v l) : ∃ p cap, v = .slice p l.length cap ∧ SlAt (fun k => B ≤ k) x ⟨p, l.length, cap⟩ l ∧ Apart 0 x ⟨p, l.length, cap⟩ l := by
 have h0 := h
 obtain ⟨p, cap, rfl, hat⟩ := ownG_strs h
 refine ⟨p, cap, rfl, ⟨rfl, hat, fun hne a ha => ?_⟩, fun hne a ha => Or.inr ?_⟩
 ·simp only at ha
  subst ha
  exact (h.lt _ rfl).1
 ·simp only at ha
  subst ha
  rcases h0.2 with ⟨hv, _⟩ | ⟨g, cap', cur, hv, _, hg, _⟩
  ·cases hv
  ·simp only [Value.slice.injEq, Option.some.injEq] at hv
   obtain ⟨rfl, -⟩ := hv
   exact ⟨cur, (0, 0), hg⟩
theorem OwnL.nil (n : Nat) (P : Nat → Prop) (B : Nat) (x : World) : OwnL n P B x (.slice none 0 0) [] := ⟨[], OwnG.nil _ _ _, rfl, fun i s l h => by simp at h⟩
theorem OwnL.bel {n : Nat} {P : Nat → Prop} {B : Nat} {x y : World} {v : Value} {L : List (List (List UInt8))} (h : OwnL n P B x v L) (hb : Bel x y) : OwnL n P B y v L := by
 obtain ⟨H, h1, h2, h3⟩ := h.ex
 exact ⟨H, h1.bel hb, h2, fun i s l hs hl => ⟨(h3 i s l hs hl).1.bel hb, (h3 i s l hs hl).2.bel hb⟩⟩
theorem OwnL.low {n : Nat} {P : Nat → Prop} {B B' : Nat} {x : World} {v : Value} {L : List (List (List UInt8))} (h : OwnL n P B x v L) (hB : B' ≤ B) : OwnL n P B' x v L := by
 obtain ⟨H, h1, h2, h3⟩ := h.ex
 exact ⟨H, h1.low hB, h2, h3⟩
theorem OwnL.mono {n m : Nat} {P Q : Nat → Prop} {B : Nat} {x : World} {v : Value} {L : List (List (List UInt8))} (h : OwnL n P B x v L) (hPQ : ∀ k, P k → Q k) (hn : n ≤ m) : OwnL m Q B x v L := by
 obtain ⟨H, h1, h2, h3⟩ := h.ex
 exact ⟨H, h1, h2, fun i s l hs hl => ⟨(h3 i s l hs hl).1.mono hPQ, (h3 i s l hs hl).2.mono hn⟩⟩
theorem OwnL.keep {n : Nat} {P : Nat → Prop} {B : Nat} {x y : World} {v : Value} {L : List (List (List UInt8))} (h : OwnL n P B x v L) (hk : ∀ k, P k → y.heap[k]? = x.heap[k]?) (hv : ∀ k, v.ownBlock = some k → y.heap[k]? = x.heap[k]?) : OwnL n P B y v L := by
 obtain ⟨H, h1, h2, h3⟩ := h.ex
 refine ⟨H, ?_, h2, fun i s l hs hl => ⟨(h3 i s l hs hl).1.keep hk, (h3 i s l hs hl).2.keep (fun hne a ha => hk _ ((h3 i s l hs hl).1.blk hne a ha))⟩⟩
 obtain ⟨q1, q2⟩ := h1
 refine ⟨q1, ?_⟩
 rcases q2 with q2 | ⟨g, cap, cur, rfl, hg, hh, r⟩
 ·exact Or.inl q2
 ·exact Or.inr ⟨g, cap, cur, rfl, hg, (hv g rfl).trans hh, r⟩
theorem OwnL.len {n : Nat} {P : Nat → Prop} {B : Nat} {x : World} {v : Value} {L : List (List (List UInt8))} (h : OwnL n P B x v L) : ∃ p cap, v = .slice p L.length cap := by
 obtain ⟨H, h1, h2, h3⟩ := h.ex
 obtain ⟨p, cap, hv⟩ := ownG_len h1
 exact ⟨p, cap, by rw [hv, h2]⟩
theorem apart_own {n B : Nat} {x : World} {v : Value} {H : List SL} (h : OwnG slEl B x v H) (hn : n ≤ B) {s : SL} {l : List (List UInt8)} (ha : Apart n x s l) (hne : l ≠ []) {a : Addr} (hp : s.p = some a) : some a.block ≠ v.ownBlock := by
 intro e
 rcases ha hne a hp with hlt | ⟨c, f, hs⟩
 ·have := (h.lt a.block e.symm).1; omega
 ·rcases h.2 with ⟨rfl, _⟩ | ⟨g, cap, cur, rfl, _, hg, _⟩
  ·cases e
  ·simp only [Value.ownBlock, Option.some.injEq] at e
   rw [e, hg] at hs
   simp only [Option.some.injEq, Obj.cells.injEq] at hs
   exact absurd hs.2.1 (by decide)
theorem append_where {α : Type} {E : El α} {B b : Nat} {x : World} {v : Value} {L : List α} (hE : ElOk E b) (hown : OwnG E B x v L) (ty : TypeId) (ad : Addr) (c : Nat) (news : List α) (hnews : ∀ j u, (E.all news)[j]? = some u → x.cell? (ad.add j) = some u)
  (hl1 : L.length + news.length ≤ maxLen) (hlim : (L.length + news.length) * b ≤ 140737488355328) {v' : Value} {w' : World}
  (hr : (Builtin.append_ #[E.ST, E.ST] ty #[v, .slice (some ad) news.length c]).run Tryz.prog x = .ok v' w') : v'.ownBlock = v.ownBlock ∨ v'.ownBlock = some x.heap.size := by
 obtain ⟨z, hz, hzc⟩ := hE.info
 obtain ⟨i, hi, hz0, hz1, hz2⟩ := info_parts hz
 have hsmall : L.length + news.length ≤ 9223372036854775807 := by unfold maxLen at hl1; omega
 have hln : (E.all news).length = news.length * i.size := by rw [El.all_len hE, hz1]
 rcases hown.2 with ⟨rfl, h0⟩ | ⟨g, cap, cur, rfl, hbg, hg, hnc, hcm, hcs, htake⟩
 ·by_cases hm : news.length = 0
  ·have hr2 : (Builtin.append_ #[E.ST, E.ST] ty #[.slice none 0 0, .slice (some ad) news.length c]).run Tryz.prog x = .ok (.slice none 0 0) x := by
    rw [hm]
    simp [Builtin.append_, run_underlying hE.und, sizeOf, typeInfo, hi, Builtin.lenOf, Builtin.firstCells, loadCells, loadCellsFrom]
   rw [hr2] at hr
   simp only [Result.ok.injEq] at hr
   exact Or.inl (by rw [← hr.1])
  ·have hr2 := run_append_nil (P := Tryz.prog) x E.ST ty E.T i z hE.und hi hz0 ad news.length c (E.all news) hln hnews (by omega) (by omega) (by rw [hz2]; have : news.length * b ≤ (L.length + news.length) * b := Nat.mul_le_mul_right _ (by omega); omega)
   rw [hr2] at hr
   simp only [Result.ok.injEq] at hr
   exact Or.inr (by rw [← hr.1]; rfl)
 ·by_cases hroom : L.length + news.length ≤ cap
  ·have hfit : L.length * i.size + (E.all news).length ≤ cur.size := by rw [hln, hcs, hz1, ← Nat.add_mul]; exact Nat.mul_le_mul_right _ hroom
   have hr2 := run_append_room (P := Tryz.prog) x E.ST ty E.T i hE.und hi g L.length cap cur hg ad news.length c (E.all news) hln hnews (El.all_one hE _) hroom hfit
   rw [hr2] at hr
   simp only [Result.ok.injEq] at hr
   exact Or.inl (by rw [← hr.1]; rfl)
  ·have holds : ∀ j u, (E.all L)[j]? = some u → x.cell? ((⟨g, 0, none⟩ : Addr).add j) = some u := World.ownsRow.cells hown rfl
   have hr2 := run_append_grow (P := Tryz.prog) x E.ST ty E.T i z hE.und hi hz0 ⟨g, 0, none⟩ L.length cap (E.all L) (by rw [El.all_len hE, hz1]) holds ad news.length c (E.all news) hln hnews (by omega) (by omega) (growslice_fits (by omega) (by rw [hz2]; exact hlim))
   rw [hr2] at hr
   simp only [Result.ok.injEq] at hr
   exact Or.inr (by rw [← hr.1]; rfl)
theorem append_src {α : Type} {E : El α} {B b : Nat} {x : World} {v yv : Value} {L : List α} (hE : ElOk E b) {ops : Array Oper} {rest : List Oper} {o : Oper} {a : Act} {Q : Exit → Act → World → Prop} (hgd : o.guard = none) (s y : Operand)
  (ho : o.op = .call { callee := .builtin .append, args := #[s, y], argTypes := #[E.ST, E.ST] }) (hs : a.eval s = v) (hown : OwnG E B x v L) (news : List α) (hy : a.eval y = yv) (hsrc : SrcAt E x yv news)
  (hl1 : L.length + news.length ≤ maxLen) (hlim : (L.length + news.length) * b ≤ 140737488355328) (hbase : B ≤ x.heap.size)
  (h : ∀ v' w', OwnG E B w' v' (L ++ news) → Below B x w' → (∀ k, k < x.heap.size → some k ≠ v.ownBlock → w'.heap[k]? = x.heap[k]?) → (v'.ownBlock = v.ownBlock ∨ v'.ownBlock = some x.heap.size) → wpList Tryz.prog ops Q rest (a.put o.dst v') w') : wpList Tryz.prog ops Q (o :: rest) a x := by
 refine wpList_plain hgd fun K hK => ?_
 obtain ⟨z, hz, hzc⟩ := hE.info
 obtain ⟨i0, hi, hz0, hz1, hz2⟩ := info_parts hz
 rcases hsrc with ⟨rfl, rfl⟩ | ⟨ad, c, rfl, hc⟩
 ·have hr := run_append_owned_none (P := Tryz.prog) (w := x) B E.ST o.type E.T i0 E.n hE.und hi v L.length (E.all L) hown
  unfold Oper.wp execOp
  simp only [ho, resolve, invoke, builtin, Sem.run_bind, Sem.run_pure, Result.andThen_ok, List.map_toArray, List.map_cons, List.map_nil, hs, hy, hr]
  exact hK _ _ (h v x (by simpa using hown) (Below.refl _ _) (fun _ _ _ => rfl) (Or.inl rfl))
 ·obtain ⟨v', w', hr, h1, h2, h3⟩ := run_append_own (P := Tryz.prog) x B E.ST o.type E.T i0 z E.n b hE.und hi hz0 hz1 hz2 hzc hE.pos v L.length (E.all L) hown ad news.length c (E.all news) (El.all_len hE _) hc (El.all_one hE _) hl1 hlim hbase
  have hw := append_where hE hown o.type ad c news hc hl1 hlim hr
  unfold Oper.wp execOp
  simp only [ho, resolve, invoke, builtin, Sem.run_bind, Sem.run_pure, Result.andThen_ok, List.map_toArray, List.map_cons, List.map_nil, hs, hy, hr]
  refine hK _ _ (h v' w' ?_ ((Below.refl B x).grown h2 hbase fun k hk => (hown.lt k hk).1) (fun k hk hne => h2.block k hk hne) hw)
  unfold OwnG
  rw [List.length_append, El.all_append]
  exact h1
theorem append_keep {α : Type} {E : El α} {B b : Nat} {x : World} {v : Value} {L : List α} (hE : ElOk E b) {ops : Array Oper} {rest : List Oper} {o : Oper} {a : Act} {Q : Exit → Act → World → Prop} (hgd : o.guard = none) (s y : Operand)
  (ho : o.op = .call { callee := .builtin .append, args := #[s, y], argTypes := #[E.ST, E.ST] }) (hs : a.eval s = v) (hown : OwnG E B x v L)
  (ad : Addr) (m c : Nat) (news : List α) (hx : a.eval y = .slice (some ad) m c) (hm : m = news.length) (hnews : ∀ j u, (E.all news)[j]? = some u → x.cell? (ad.add j) = some u)
  (hl1 : L.length + news.length ≤ maxLen) (hlim : (L.length + news.length) * b ≤ 140737488355328) (hbase : B ≤ x.heap.size)
  (h : ∀ v' w', OwnG E B w' v' (L ++ news) → Below B x w' → (∀ k, k < x.heap.size → some k ≠ v.ownBlock → w'.heap[k]? = x.heap[k]?) → wpList Tryz.prog ops Q rest (a.put o.dst v') w') : wpList Tryz.prog ops Q (o :: rest) a x :=
 append_src hE hgd s y ho hs hown news hx (Or.inr ⟨ad, c, by rw [hm], hnews⟩) hl1 hlim hbase fun v' w' h1 h2 h3 _ => h v' w' h1 h2 h3
theorem own_src {α : Type} {E : El α} {B b : Nat} {x : World} {v : Value} {L : List α} (hE : ElOk E b) (h : OwnG E B x v L) : SrcAt E x v L := by
 rcases h.2 with ⟨rfl, h0⟩ | ⟨g, cap, cur, rfl, _⟩
 ·exact Or.inl ⟨rfl, List.length_eq_zero_iff.1 h0⟩
 ·exact Or.inr ⟨⟨g, 0, none⟩, cap, rfl, World.ownsRow.cells h rfl⟩
structure RowL (P : Nat → Prop) (x : World) (p : Option Addr) (L : List (List (List UInt8))) : Prop where
 ex : ∃ H : List SL, H.length = L.length ∧ (∀ (i : Nat) (s : SL), H[i]? = some s → ∃ a, p = some a ∧ P a.block ∧ x.cell? (a.add i) = some s.val) ∧ ∀ (i : Nat) (s : SL) (l : List (List UInt8)), H[i]? = some s → L[i]? = some l → SlAt P x s l
theorem RowL.keep {P : Nat → Prop} {x y : World} {p : Option Addr} {L : List (List (List UInt8))} (h : RowL P x p L) (hk : ∀ k, P k → y.heap[k]? = x.heap[k]?) : RowL P y p L := by
 obtain ⟨H, h1, h2, h3⟩ := h.ex
 refine ⟨H, h1, fun i s hs => ?_, fun i s l hs hl => (h3 i s l hs hl).keep hk⟩
 obtain ⟨a, ha, hP, hc⟩ := h2 i s hs
 exact ⟨a, ha, hP, (World.cell?_of_block (by rw [add_block]; exact hk _ hP)).trans hc⟩
theorem RowL.bel {P : Nat → Prop} {x y : World} {p : Option Addr} {L : List (List (List UInt8))} (h : RowL P x p L) (hb : Bel x y) : RowL P y p L := by
 obtain ⟨H, h1, h2, h3⟩ := h.ex
 refine ⟨H, h1, fun i s hs => ?_, fun i s l hs hl => (h3 i s l hs hl).bel hb⟩
 obtain ⟨a, ha, hP, hc⟩ := h2 i s hs
 exact ⟨a, ha, hP, cell_later hb hc⟩
theorem RowL.mono {P Q : Nat → Prop} {x : World} {p : Option Addr} {L : List (List (List UInt8))} (h : RowL P x p L) (hPQ : ∀ k, P k → Q k) : RowL Q x p L := by
 obtain ⟨H, h1, h2, h3⟩ := h.ex
 refine ⟨H, h1, fun i s hs => ?_, fun i s l hs hl => (h3 i s l hs hl).mono hPQ⟩
 obtain ⟨a, ha, hP, hc⟩ := h2 i s hs
 exact ⟨a, ha, hPQ _ hP, hc⟩
theorem OwnL.row {n : Nat} {P : Nat → Prop} {B : Nat} {x : World} {v : Value} {L : List (List (List UInt8))} (h : OwnL n P B x v L) : ∃ p cap, v = .slice p L.length cap ∧ RowL (fun k => P k ∨ v.ownBlock = some k) x p L := by
 obtain ⟨H, h1, h2, h3⟩ := h.ex
 by_cases hne : H = []
 ·subst hne
  obtain ⟨p, cap, hv⟩ := ownG_len h1
  exact ⟨p, cap, by rw [hv, ← h2], [], h2, fun i s hs => by simp at hs, fun i s l hs => by simp at hs⟩
 ·obtain ⟨g, cap, rfl, hg, _, _, hcs⟩ := ownG_cells slOk h1 hne
  refine ⟨_, cap, by rw [h2], H, h2, fun i s hs => ⟨_, rfl, Or.inr rfl, ?_⟩, fun i s l hs hl => (h3 i s l hs hl).1.mono (fun k hk => Or.inl hk)⟩
  have := hcs i s hs 0 _ rfl
  have e : (⟨g, 0, none⟩ : Addr).add i = ⟨g, i, none⟩ := by cases i <;> simp [Addr.add]
  rw [e]
  simpa [slEl] using this
theorem els_keep {n B : Nat} {P : Nat → Prop} {x y : World} {v : Value} {H H' : List SL} {L : List (List (List UInt8))} (h1 : OwnG slEl B x v H) (hn : n ≤ B)
  (h3 : ∀ (i : Nat) (s : SL) (l : List (List UInt8)), H'[i]? = some s → L[i]? = some l → SlAt P x s l ∧ Apart n x s l) (hk : ∀ k, k < x.heap.size → some k ≠ v.ownBlock → y.heap[k]? = x.heap[k]?) :
  ∀ (i : Nat) (s : SL) (l : List (List UInt8)), H'[i]? = some s → L[i]? = some l → SlAt P y s l ∧ Apart n y s l := fun i s l hs hl => by
 obtain ⟨q1, q2⟩ := h3 i s l hs hl
 have hb : l ≠ [] → ∀ a, s.p = some a → y.heap[a.block]? = x.heap[a.block]? := fun hne a ha => hk _ (strs_lt q1.at_ hne a ha) (apart_own h1 hn q2 hne ha)
 exact ⟨⟨q1.len, q1.at_.keep hb, q1.blk⟩, q2.keep hb⟩
theorem els_app {n : Nat} {P : Nat → Prop} {x : World} {L M : List (List (List UInt8))} {H K : List SL} (h2 : H.length = L.length)
  (h3 : ∀ (i : Nat) (s : SL) (l : List (List UInt8)), H[i]? = some s → L[i]? = some l → SlAt P x s l ∧ Apart n x s l) (h4 : ∀ (i : Nat) (s : SL) (l : List (List UInt8)), K[i]? = some s → M[i]? = some l → SlAt P x s l ∧ Apart n x s l) :
  ∀ (i : Nat) (s : SL) (l : List (List UInt8)), (H ++ K)[i]? = some s → (L ++ M)[i]? = some l → SlAt P x s l ∧ Apart n x s l := fun i s' l' hs hl => by
 rcases Nat.lt_or_ge i H.length with hi | hi
 ·rw [List.getElem?_append_left hi] at hs
  rw [List.getElem?_append_left (by omega)] at hl
  exact h3 i s' l' hs hl
 ·rw [List.getElem?_append_right hi] at hs
  rw [List.getElem?_append_right (by omega), show i - L.length = i - H.length by omega] at hl
  exact h4 _ s' l' hs hl
theorem els_one {n : Nat} {P : Nat → Prop} {x : World} {s : SL} {l : List (List UInt8)} (h : SlAt P x s l ∧ Apart n x s l) : ∀ (i : Nat) (s' : SL) (l' : List (List UInt8)), [s][i]? = some s' → [l][i]? = some l' → SlAt P x s' l' ∧ Apart n x s' l' := fun i s' l' hs hl => by
 cases i with
 | zero => simp at hs hl; subst hs hl; exact h
 | succ i => simp at hs
theorem one_keep {n B : Nat} {P : Nat → Prop} {x y : World} {v : Value} {H : List SL} (h1 : OwnG slEl B x v H) (hn : n ≤ B) {s : SL} {l : List (List UInt8)} (h : SlAt P x s l ∧ Apart n x s l) (hk : ∀ k, k < x.heap.size → some k ≠ v.ownBlock → y.heap[k]? = x.heap[k]?) : SlAt P y s l ∧ Apart n y s l := by
 have hb : l ≠ [] → ∀ a, s.p = some a → y.heap[a.block]? = x.heap[a.block]? := fun hne a ha => hk _ (strs_lt h.1.at_ hne a ha) (apart_own h1 hn h.2 hne ha)
 exact ⟨⟨h.1.len, h.1.at_.keep hb, h.1.blk⟩, h.2.keep hb⟩

def FirstPost (s : List UInt8) (w : World) (e : Ending) (w' : World) : Prop :=
 ∃ v, e = .returned (.tuple #[v, .string ⟨(firstL s).2.1.toArray⟩, .int .i64 (firstL s).2.2]) ∧ OwnG strEl w.heap.size w' v (firstL s).1 ∧ Bel w w'
set_option maxHeartbeats 4000000 in
theorem jfirst_any (s : ByteArray) (w : World) (hs : s.size ≤ 1000000) :
  Calls Tryz.prog 176 #[.string s] w (FirstPost s.data.toList w) := by
 obtain ⟨t, r, e, hU⟩ : ∃ t r e, unframeL s.data.toList = (t, r, e) := ⟨_, _, _, rfl⟩
 have HT := Lib.hid (show unV s.data.toList = .tuple #[.string ⟨t.toArray⟩, .string ⟨r.toArray⟩, .int .i64 e] by rw [unV, hU])
 by_cases he : e = 0
 ·subst he
  have hp := unframe_payload hU
  have htz := str_len t
  have HTL := Lib.hid (str_list t)
  cases hu : unbL t with
  | some l =>
   have HF := Lib.hid (first_ok hU hu)
   have HUS := Lib.hid (show unbS (⟨t.toArray⟩ : ByteArray).data.toList = (l, 0) by rw [HTL.out]; exact unbs_some hu)
   clear hU hu
   go_enter Tryz.func176, Tryz.ntmps176
   go_wp2_with (fail)
   refine (unframe_any s w hs).mono ?_
   rintro e w1 ⟨rfl, hb1⟩
   rw [HT.out]
   have HB1 := Lib.hid hb1; clear hb1
   go_wp2_with (fail)
   refine (unbatch_any ⟨t.toArray⟩ _ (by omega)).mono ?_
   rintro e w2 ⟨v, rfl, hown, hb2⟩
   rw [HUS.out] at hown ⊢
   have HB2 := Lib.hid (HB1.out.trans hb2)
   have HV := Lib.hid (hown.low HB1.out.size)
   clear hown hb2
   go_wp2_with (fail)
   go_ret3
   exact ⟨_, by rw [HF.out]; rfl, by rw [HF.out]; exact HV.out, HB2.out⟩
  | none =>
   have HF := Lib.hid (first_form hU hu)
   have HUS := Lib.hid (show unbS (⟨t.toArray⟩ : ByteArray).data.toList = ([], 8) by rw [HTL.out]; exact unbs_none hu)
   clear hU hu
   go_enter Tryz.func176, Tryz.ntmps176
   go_wp2_with (fail)
   refine (unframe_any s w hs).mono ?_
   rintro e w1 ⟨rfl, hb1⟩
   rw [HT.out]
   have HB1 := Lib.hid hb1; clear hb1
   go_wp2_with (fail)
   refine (unbatch_any ⟨t.toArray⟩ _ (by omega)).mono ?_
   rintro e w2 ⟨v, rfl, hown, hb2⟩
   rw [HUS.out] at hown ⊢
   have HB2 := Lib.hid (HB1.out.trans hb2)
   clear hown hb2
   go_wp2_with (fail)
   go_ret3
   exact ⟨_, by rw [HF.out]; rfl, by rw [HF.out]; exact OwnG.nil _ _ _, HB2.out⟩
 ·have HF := Lib.hid (first_err hU he)
  have he3 := (unframe_err hU he).2.2
  by_cases h10 : e = 10
  ·subst h10
   rw [if_pos rfl] at HF
   clear hU
   go_enter Tryz.func176, Tryz.ntmps176
   go_wp2_with (fail)
   refine (unframe_any s w hs).mono ?_
   rintro e w1 ⟨rfl, hb1⟩
   rw [HT.out]
   have HB1 := Lib.hid hb1; clear hb1
   go_wp2_with (fail)
   go_ret3
   exact ⟨_, by rw [HF.out]; rfl, by rw [HF.out]; exact OwnG.nil _ _ _, HB1.out⟩
  ·rw [if_neg h10] at HF
   clear hU
   go_enter Tryz.func176, Tryz.ntmps176
   go_wp2_with (fail)
   refine (unframe_any s w hs).mono ?_
   rintro e' w1 ⟨rfl, hb1⟩
   rw [HT.out]
   have HB1 := Lib.hid hb1; clear hb1
   have hx1 : (e == 10) = false := by rw [beq_eq_false_iff_ne]; exact h10
   have hx2 : (e == 0) = false := by rw [beq_eq_false_iff_ne]; exact he
   have hx3 : (e != 0) = true := by rw [bne_iff_ne]; exact he
   go_wp2_with (fail)
   go_ret3
   exact ⟨_, by rw [HF.out]; rfl, by rw [HF.out]; exact OwnG.nil _ _ _, HB1.out⟩

def BatPost (s : List UInt8) (w : World) (e : Ending) (w' : World) : Prop :=
 ∃ v, e = .returned (.tuple #[v, .int .i64 ((readL s).2.1 : Nat), .int .i64 (readL s).2.2]) ∧ OwnL 0 (fun k => w.heap.size ≤ k) w.heap.size w' v (readL s).1 ∧ Bel w w'
def BaRel (s : List UInt8) (w : World) (ov rv : Value) (x : World) : Prop :=
 ∃ (acc : List (List (List UInt8))) (r : ByteArray), rv = .string r ∧ r.size ≤ s.length ∧ acc.length + r.size ≤ s.length ∧ OwnL 0 (fun k => w.heap.size ≤ k) w.heap.size x ov acc ∧
  readL s = (acc ++ (readL r.data.toList).1, s.length - r.size + (readL r.data.toList).2.1, (readL r.data.toList).2.2) ∧ Bel w x
set_option maxHeartbeats 4000000 in
theorem batches_any (s : ByteArray) (w : World) (hs : s.size ≤ 1000000) :
  Calls Tryz.prog 152 #[.string s] w (BatPost s.data.toList w) := by
 have hsl : s.data.toList.length = s.size := rfl
 go_enter Tryz.func152, Tryz.ntmps152
 go_wp2_with (fail)
 go_loopw [5, 6] (fun ov rv x => BaRel s.data.toList w ov rv x) (fun _ rv _ => strLen rv)
 case atStart => exact ⟨[], s, rfl, Nat.le_refl _, by simp [hsl], OwnL.nil _ _ _ _, by rw [hsl]; simp, Bel.refl w⟩
 case round =>
  obtain ⟨acc, r, rfl, hrs, hacc, hown, hu, hb⟩ := hrel
  rw [hsl] at hrs hacc
  obtain ⟨pp, cap, hpv⟩ := hown.len
  subst hpv
  have HU := Lib.hid hu; clear hu
  have HV := Lib.hid hown; clear hown
  have HB := Lib.hid hb; clear hb
  by_cases hr0 : r.size = 0
  ·obtain rfl : r = ⟨#[]⟩ := by apply ByteArray.ext; exact Array.eq_empty_of_size_eq_zero hr0
   have hX := HU.out
   have e0 : (⟨#[]⟩ : ByteArray).data.toList = [] := rfl
   rw [e0, read_nil] at hX
   have HX := Lib.hid (show readL s.data.toList = (acc, s.size, 0) by rw [hX]; simp [hsl]; rfl)
   clear hX
   go_wp2_with (fail)
   go_ret3
   exact ⟨_, by rw [HX.out]; rfl, by rw [HX.out]; exact HV.out, HB.out⟩
  ·have hnl := ne_nil r hr0
   have hne : r.toList.isEmpty = false := by rw [ByteArray.toList_eq]; cases h : r.data.toList with | nil => exact absurd h hnl | cons a l => rfl
   obtain ⟨l, rest, e, hF⟩ : ∃ l rest e, firstL r.data.toList = (l, rest, e) := ⟨_, _, _, rfl⟩
   have hrl : r.data.toList.length = r.size := rfl
   have HF := Lib.hid hF
   by_cases he : e = 0
   ·subst he
    obtain ⟨t, -, -, hlt⟩ := first_rest hF
    rw [hrl] at hlt
    have hX := HU.out
    rw [read_next hF] at hX
    have HX := Lib.hid (show readL s.data.toList = (acc ++ [l] ++ (readL rest).1, s.size - rest.length + (readL rest).2.1, (readL rest).2.2) by
     rw [hX, hrl, hsl]; simp only [List.append_assoc, List.singleton_append, Prod.mk.injEq, true_and, and_true]; omega)
    clear hX hnl hF
    go_wp2_with (fail)
    refine (jfirst_any r _ (by omega)).mono ?_
    rintro e w1 ⟨lv, rfl, hlo, hb⟩
    rw [HF.out] at hlo ⊢
    obtain ⟨lp, lc, rfl, hsa⟩ := SlAt.own (hlo.low HB.out.size)
    have HSA := Lib.hid hsa
    replace HB := Lib.hid (HB.out.trans hb)
    replace HV := Lib.hid (HV.out.bel hb); clear hb hlo hsa
    obtain ⟨H, h1, h2, h3⟩ := HV.out.ex
    have HG := Lib.hid h1
    have H3 := Lib.hid h3
    clear h1 h3
    go_wp2_with (at_builtin; refine stop_here ?_)
    refine go_on ?_
    have hal : acc.length ≤ 1000000 := by omega
    refine append_keep (L := H) slOk rfl _ _ rfl rfl (HG.out.alloc _) _ _ _ [⟨lp, l.length, lc⟩] rfl rfl (cellsG_new _ _ _ _ rfl) (by unfold maxLen; simp only [List.length_singleton]; omega) (by simp only [List.length_singleton]; omega) (HB.out.alloc _).size ?_
    intro v3 w3 hown3 hbel3 hkeep
    have HB3 := Lib.hid ((HB.out.alloc _).trans_below hbel3)
    have HE := Lib.hid (els_app h2 (els_keep (HG.out.alloc _) (Nat.zero_le _) (fun i s l hs hl => ⟨(H3.out i s l hs hl).1.bel ((Bel.refl _).alloc _), (H3.out i s l hs hl).2.bel ((Bel.refl _).alloc _)⟩) hkeep)
     (els_one (one_keep (HG.out.alloc _) (Nat.zero_le _) ⟨HSA.out.1.bel ((Bel.refl _).alloc _), HSA.out.2.bel ((Bel.refl _).alloc _)⟩ hkeep)))
    obtain ⟨p3, c3, hv3⟩ := ownG_len hown3
    have HO := Lib.hid (show OwnL 0 (fun k => w.heap.size ≤ k) w.heap.size w3 v3 (acc ++ [l]) from ⟨_, hown3, by simp [h2], HE.out⟩)
    rw [List.length_append, h2, List.length_singleton] at hv3
    subst hv3
    clear hown3 hbel3 hkeep HE
    have HSZ := Lib.hid (str_len rest)
    go_wp2_with (fail)
    go_roundw
    case rel => exact ⟨acc ++ [l], ⟨rest.toArray⟩, rfl, by rw [HSZ.out, hsl]; omega, by rw [HSZ.out, hsl]; simp; omega, HO.out, by rw [HSZ.out, str_list, hsl]; exact HX.out, HB3.out⟩
    case measure => simp only [strLen]; rw [HSZ.out]; omega
   ·obtain ⟨rfl, rfl, he3⟩ := first_fail hF he
    have hX := HU.out
    rw [read_end hnl hF he] at hX
    have HX := Lib.hid (show readL s.data.toList = (acc, s.size - r.size, e) by
     rw [hX, hsl]; simp)
    clear hX hnl hF
    have hx3 : (e != 0) = true := by rw [bne_iff_ne]; exact he
    have hx2 : (e == 0) = false := by rw [beq_eq_false_iff_ne]; exact he
    go_wp2_with (fail)
    refine (jfirst_any r _ (by omega)).mono ?_
    rintro e' w1 ⟨lv, rfl, hlo, hb⟩
    rw [HF.out]
    replace HB := Lib.hid (HB.out.trans hb)
    replace HV := Lib.hid (HV.out.bel hb); clear hb hlo
    have hsub : ((s.size : Int) - (r.size : Int)) = ((s.size - r.size : Nat) : Int) := by omega
    go_wp2_with (fail)
    go_ret3
    exact ⟨_, by rw [HX.out]; rfl, by rw [HX.out]; exact HV.out, HB.out⟩

def frsF (fr : List (List UInt8)) : Nat := (fr.flatMap frameL).length
theorem frsF_cons (t : List UInt8) (fr : List (List UInt8)) : frsF (t :: fr) = (frameL t).length + frsF fr := by unfold frsF; rw [List.flatMap_cons, List.length_append]
theorem scan_sizes : ∀ (n : Nat) (s : List UInt8), s.length ≤ n → (scanL s).2.1 = frsF (scanL s).1 ∧ (scanL s).2.1 ≤ s.length ∧ (scanL s).1.length ≤ s.length ∧ ∀ t ∈ (scanL s).1, t.length ≤ 40000
 | n, s, hn => by
  by_cases hs : s = []
  ·subst hs; rw [scan_nil]; exact ⟨rfl, Nat.le_refl _, Nat.le_refl _, fun t ht => by cases ht⟩
  obtain ⟨t, r, e, hU⟩ : ∃ t r e, unframeL s = (t, r, e) := ⟨_, _, _, rfl⟩
  by_cases he : e = 0
  ·subst he
   have hlt := unframe_rest hU
   have hfr := frame_rest hU
   have hfb := (frame_back hU).2
   have hfl := frame_len t
   cases n with
   | zero => omega
   | succ n =>
    obtain ⟨h1, h2, h3, h4⟩ := scan_sizes n r (by omega)
    rw [scan_next hU]
    simp only [frsF_cons, List.length_cons]
    refine ⟨by omega, by omega, by omega, fun u hu => ?_⟩
    rcases List.mem_cons.1 hu with rfl | hu
    ·exact hfb
    ·exact h4 u hu
  ·rw [scan_end hs hU he]
   exact ⟨rfl, Nat.zero_le _, Nat.zero_le _, fun t ht => by cases ht⟩
def LeftR (fr : List (List UInt8)) (N : Nat) (e : Int) (i : Nat) (acc : List (List (List UInt8))) : Prop :=
 rdOf fr N e = (acc ++ (rdOf (fr.drop i) (N - frsF (fr.take i)) e).1, frsF (fr.take i) + (rdOf (fr.drop i) (N - frsF (fr.take i)) e).2.1, (rdOf (fr.drop i) (N - frsF (fr.take i)) e).2.2)
theorem leftR_start (fr : List (List UInt8)) (N : Nat) (e : Int) : LeftR fr N e 0 [] := by
 unfold LeftR; simp [frsF]
theorem frsF_snoc (fr : List (List UInt8)) (i : Nat) (h : i < fr.length) : frsF (fr.take (i + 1)) = frsF (fr.take i) + (frameL fr[i]).length := by
 unfold frsF
 rw [List.take_add_one, List.getElem?_eq_getElem h, List.flatMap_append, List.length_append]; simp
theorem leftR_next {fr : List (List UInt8)} {N : Nat} {e : Int} {i : Nat} {acc : List (List (List UInt8))} (h : LeftR fr N e i acc) (hi : i < fr.length) {l : List (List UInt8)} (hu : unbL fr[i] = some l) : LeftR fr N e (i + 1) (acc ++ [l]) := by
 unfold LeftR at h ⊢
 rw [h, List.drop_eq_getElem_cons hi, rdOf, hu, frsF_snoc fr i hi]
 simp only [List.append_assoc, List.singleton_append, Nat.sub_sub, Prod.mk.injEq, true_and, and_true]
 omega
theorem leftR_fail {fr : List (List UInt8)} {N : Nat} {e : Int} {i : Nat} {acc : List (List (List UInt8))} (h : LeftR fr N e i acc) (hi : i < fr.length) (hu : unbL fr[i] = none) : rdOf fr N e = (acc, frsF (fr.take i), 8) := by
 unfold LeftR at h
 rw [h, List.drop_eq_getElem_cons hi, rdOf, hu]
 simp
theorem leftR_end {fr : List (List UInt8)} {N : Nat} {e : Int} {acc : List (List (List UInt8))} (h : LeftR fr N e fr.length acc) (hN : N = frsF fr) : rdOf fr N e = (acc, N, if e = 10 then 8 else e) := by
 unfold LeftR at h
 rw [h, List.drop_length, List.take_length, ← hN, rdOf]
 simp
theorem frsF_take (fr : List (List UInt8)) (i : Nat) : frsF (fr.take i) ≤ frsF fr := by
 unfold frsF
 conv => rhs; rw [← List.take_append_drop i fr]
 rw [List.flatMap_append, List.length_append]; omega
def RrRel (w1 : World) (fr : List (List UInt8)) (N : Nat) (e : Int) (ov av iv : Value) (x : World) : Prop :=
 ∃ (k : Nat) (acc : List (List (List UInt8))), iv = .int .i64 k ∧ k ≤ fr.length ∧ acc.length = k ∧ av = .int .i64 (frsF (fr.take k) : Nat) ∧ OwnL 0 (fun j => w1.heap.size ≤ j) w1.heap.size x ov acc ∧ LeftR fr N e k acc ∧ Bel w1 x
set_option maxHeartbeats 4000000 in
theorem rread_any (s : ByteArray) (w : World) (hs : s.size ≤ 1000000) :
  Calls Tryz.prog 102 #[.string s] w (BatPost s.data.toList w) := by
 have hsl : s.data.toList.length = s.size := rfl
 obtain ⟨fr, N, e5, hS⟩ : ∃ fr N e5, scanL s.data.toList = (fr, N, e5) := ⟨_, _, _, rfl⟩
 have hsz := scan_sizes s.data.toList.length s.data.toList (Nat.le_refl _)
 have hrd := read_scan s.data.toList.length s.data.toList (Nat.le_refl _)
 rw [hS] at hsz hrd
 simp only at hsz hrd
 obtain ⟨hN, hNs, hfl, h4⟩ := hsz
 rw [hsl] at hNs hfl
 have HS := Lib.hid hS
 have HRD := Lib.hid hrd
 have H4 := Lib.hid h4
 have HN := Lib.hid hN
 clear hS hrd h4 hN
 go_enter Tryz.func102, Tryz.ntmps102
 go_wp2_with (fail)
 refine (rscan_any s _ hs).mono ?_
 rintro e w1 ⟨v, rfl, hown, hb1⟩
 rw [HS.out] at hown ⊢
 obtain ⟨fp, fc, rfl, hat⟩ := ownG_strs hown
 have HAT := Lib.hid hat
 have HB1 := Lib.hid hb1
 clear hown hat hb1
 go_wp2_with (fail)
 go_loopw [8, 9, 10] (fun ov av iv x => RrRel w1 fr N e5 ov av iv x) (fun _ _ iv _ => fr.length - (intOf iv).toNat)
 case atStart => exact ⟨0, [], rfl, Nat.zero_le _, rfl, by simp [frsF], OwnL.nil _ _ _ _, leftR_start _ _ _, Bel.refl w1⟩
 case round =>
  obtain ⟨k, acc, rfl, hk, hacc, rfl, hown, hleft, hb⟩ := hrel
  obtain ⟨pp, cap, hpv⟩ := hown.len
  rw [hacc] at hpv
  subst hpv
  have HL := Lib.hid hleft; clear hleft
  have HV := Lib.hid hown; clear hown
  have HB := Lib.hid hb; clear hb
  have HAC := Lib.hid hacc
  by_cases hlt : k < fr.length
  ·obtain ⟨a, rfl, hc⟩ := (HAT.out.bel HB.out) k hlt
   have ht4 := H4.out _ (List.getElem_mem hlt)
   have hsn := frsF_snoc fr k hlt
   have htk := frsF_take fr (k + 1)
   rw [← HN.out] at htk
   have HL1 := Lib.hid (fun l (hu : unbL fr[k] = some l) => leftR_next HL.out hlt hu)
   have HL2 := Lib.hid (fun (hu : unbL fr[k] = none) => leftR_fail HL.out hlt hu)
   have HCK := Lib.hid (show ∀ x, Bel w1 x → x.cell? (a.add k) = some (.string ⟨fr[k].toArray⟩) from fun x hx => by
    obtain ⟨a', ha', hc'⟩ := (HAT.out.bel hx) k hlt
    obtain rfl : a = a' := by simpa using ha'
    exact hc')
   obtain ⟨t, ht⟩ : ∃ t, t = fr[k] := ⟨_, rfl⟩
   rw [← ht] at hc ht4 hsn HL1 HL2 HCK
   clear ht
   have htz := str_len t
   have hfz := str_len (frameL t)
   generalize hat0 : frsF (fr.take k) = at0 at *
   cases hu : unbL t with
   | some l =>
    have HUS := Lib.hid (show unbS (⟨t.toArray⟩ : ByteArray).data.toList = (l, 0) by rw [str_list]; exact unbs_some hu)
    have HL3 := Lib.hid (HL1.out l hu)
    clear hu HL1 HL2
    go_wp2_with (fail)
    refine (runbatch_any ⟨t.toArray⟩ _ (by omega)).mono ?_
    rintro e w2 ⟨lv, rfl, hlo, hb⟩
    rw [HUS.out] at hlo ⊢
    obtain ⟨lp, lc, rfl, hsa⟩ := SlAt.own (hlo.low HB.out.size)
    have HSA := Lib.hid hsa
    replace HB := Lib.hid (HB.out.trans hb)
    replace HV := Lib.hid (HV.out.bel hb)
    have hc2 := cell_later hb hc
    clear hb hlo hsa hc
    obtain ⟨H, h1, h2, h3⟩ := HV.out.ex
    have HG := Lib.hid h1
    have H3 := Lib.hid h3
    clear h1 h3
    go_wp2_with (at_builtin; refine stop_here ?_)
    refine go_on ?_
    refine append_keep (L := H) slOk rfl _ _ rfl rfl (HG.out.alloc _) _ _ _ [⟨lp, l.length, lc⟩] rfl rfl (cellsG_new _ _ _ _ rfl) (by unfold maxLen; simp only [List.length_singleton]; omega) (by simp only [List.length_singleton]; omega) (HB.out.alloc _).size ?_
    intro v3 w3 hown3 hbel3 hkeep
    have HB3 := Lib.hid ((HB.out.alloc _).trans_below hbel3)
    have HE := Lib.hid (els_app h2 (els_keep (HG.out.alloc _) (Nat.zero_le _) (fun i s l hs hl => ⟨(H3.out i s l hs hl).1.bel ((Bel.refl _).alloc _), (H3.out i s l hs hl).2.bel ((Bel.refl _).alloc _)⟩) hkeep)
     (els_one (one_keep (HG.out.alloc _) (Nat.zero_le _) ⟨HSA.out.1.bel ((Bel.refl _).alloc _), HSA.out.2.bel ((Bel.refl _).alloc _)⟩ hkeep)))
    obtain ⟨p3, c3, hv3⟩ := ownG_len hown3
    have HO := Lib.hid (show OwnL 0 (fun k => w1.heap.size ≤ k) w1.heap.size w3 v3 (acc ++ [l]) from ⟨_, hown3, by simp [h2], HE.out⟩)
    rw [List.length_append, h2, HAC.out, List.length_singleton] at hv3
    subst hv3
    clear hown3 hbel3 hkeep HE
    have hc3 := HCK.out _ HB3.out
    clear hc2
    go_wp2_with (fail)
    refine (rframe_ok ⟨t.toArray⟩ _ (by omega)).mono ?_
    rintro e w5 ⟨rfl, hb5⟩
    unfold frameV
    rw [str_list]
    have HB5 := Lib.hid (HB3.out.trans hb5)
    have HO5 := Lib.hid (HO.out.bel hb5)
    clear hb5 hc3
    go_wp2_with (fail)
    go_roundw
    case rel => exact ⟨k + 1, acc ++ [l], by go_num, by omega, by simp [HAC.out], by rw [hsn]; go_num, HO5.out, HL3.out, HB5.out⟩
    case measure => simp [intOf]; omega
   | none =>
    have HUS := Lib.hid (show unbS (⟨t.toArray⟩ : ByteArray).data.toList = ([], 8) by rw [str_list]; exact unbs_none hu)
    have HL3 := Lib.hid (HL2.out hu)
    clear hu HL1 HL2
    go_wp2_with (fail)
    refine (runbatch_any ⟨t.toArray⟩ _ (by omega)).mono ?_
    rintro e w2 ⟨lv, rfl, hlo, hb⟩
    rw [HUS.out]
    replace HB := Lib.hid (HB.out.trans hb)
    replace HV := Lib.hid (HV.out.bel hb)
    clear hb hlo
    go_wp2_with (fail)
    go_ret3
    exact ⟨_, by rw [HRD.out, HL3.out]; rfl, by rw [HRD.out, HL3.out]; exact (HV.out.low HB1.out.size).mono (fun k hk => Nat.le_trans HB1.out.size hk) (Nat.le_refl _), HB1.out.trans HB.out⟩
  ·obtain rfl : k = fr.length := by omega
   have HE := Lib.hid (leftR_end HL.out HN.out)
   by_cases h10 : e5 = 10
   ·subst h10
    rw [if_pos rfl] at HE
    go_wp2_with (fail)
    go_ret3
    exact ⟨_, by rw [HRD.out, HE.out]; rfl, by rw [HRD.out, HE.out]; exact (HV.out.low HB1.out.size).mono (fun k hk => Nat.le_trans HB1.out.size hk) (Nat.le_refl _), HB1.out.trans HB.out⟩
   ·rw [if_neg h10] at HE
    have hx1 : (e5 == 10) = false := by rw [beq_eq_false_iff_ne]; exact h10
    go_wp2_with (fail)
    go_ret3
    exact ⟨_, by rw [HRD.out, HE.out]; rfl, by rw [HRD.out, HE.out]; exact (HV.out.low HB1.out.size).mono (fun k hk => Nat.le_trans HB1.out.size hk) (Nat.le_refl _), HB1.out.trans HB.out⟩

def AtoiPost (l : List UInt8) (w : World) (e : Ending) (w' : World) : Prop :=
 (∃ v, e = .returned (.tuple #[.int .i64 v, .nilIface]) ∧ Lib.atoiAll l = .ok v ∧ Bel w w') ∨ (∃ v T p, e = .returned (.tuple #[.int .i64 v, .iface T p]) ∧ (∀ v', Lib.atoiAll l ≠ .ok v') ∧ Bel w w')
theorem atoi_any (s : ByteArray) (w : World) (hs : s.size ≤ 1000000) (hstd : Std w) :
  Calls Tryz.prog 150 #[.string s] w (AtoiPost s.data.toList w) := by
 obtain ⟨_, ⟨t2, p2, h2⟩, ⟨t3, p3, h3⟩, _⟩ := hstd
 rcases h : Lib.atoiAll s.data.toList with v | _ | _
 ·refine (Any.strconv_Atoi_ok Tryz.laysC172 s (by omega) v h w).mono ?_
  rintro e w' ⟨rfl, hw⟩
  refine Or.inl ⟨v, rfl, h, ?_⟩
  rcases hw with rfl | ⟨t, rfl⟩
  ·exact Bel.refl _
  ·exact Lib.bytesWorld_below _ _ _
 ·refine (Any.strconv_Atoi_syntax Tryz.laysC172 s (by omega) h _ w h2 (Or.inr ⟨t2, p2, rfl⟩)).mono ?_
  rintro e w' ⟨N, rfl, -, -, hb⟩
  exact Or.inr ⟨_, _, _, rfl, fun v' hv => (by rw [h] at hv; cases hv), hb⟩
 ·refine (Any.strconv_Atoi_range Tryz.laysC172 s (by omega) h _ w h3 (Or.inr ⟨t3, p3, rfl⟩)).mono ?_
  rintro e w' ⟨N, rfl, -, -, hb⟩
  exact Or.inr ⟨_, _, _, rfl, fun v' hv => (by rw [h] at hv; cases hv), hb⟩
theorem prefix_short (s t : ByteArray) (w : World) (hs : s.size ≤ 1000000) (ht2 : t.size ≤ 1000000) (ht : s.size < t.size) :
  Calls Tryz.prog 183 #[.string s, .string t] w fun e w' => e = .returned (.bool false) ∧ Bel w w' := by
 go_enter Tryz.func183, Tryz.ntmps183
 go_wp2_with (fail)
 go_ret
 exact ⟨rfl, Bel.refl w⟩
theorem has_any (s t : ByteArray) (b : Bool) (w : World) (hs : s.size ≤ 1000000) (ht2 : t.size ≤ 1000000) (h : (s.data.toList.take t.size == t.data.toList) = b) :
  Calls Tryz.prog 183 #[.string s, .string t] w fun e w' => e = .returned (.bool b) ∧ Bel w w' := by
 by_cases ht : t.size ≤ s.size
 ·have e : ((s.extract 0 t.size).toList == t.toList) = b := by
   rw [← h, ByteArray.toList_eq, ByteArray.toList_eq, ext_data, List.drop_zero]
  rw [← e]
  exact prefix0_any s t w hs ht
 ·have e : b = false := by
   rw [← h, beq_eq_false_iff_ne]
   intro e
   have h1 := congrArg List.length e
   rw [List.length_take, show s.data.toList.length = s.size from rfl, show t.data.toList.length = t.size from rfl] at h1
   omega
  subst e
  exact prefix_short s t w hs ht2 (by omega)
theorem cut0_yes (s t : ByteArray) (w : World) (hs : s.size ≤ 1000000) (ht2 : t.size ≤ s.size) (h : (s.data.toList.take t.size == t.data.toList) = true) :
  Calls Tryz.prog 164 #[.string s, .string t] w fun e w' => e = .returned (.tuple #[.string (s.extract t.size s.size), .bool true]) ∧ Bel w w' := by
 have H := Lib.hid h; clear h
 go_enter Tryz.func164, Tryz.ntmps164
 go_wp2_with (fail)
 refine (has_any s t true w hs (by omega) H.out).mono ?_
 rintro e w1 ⟨rfl, hb⟩
 have HB := Lib.hid hb; clear hb
 go_wp2_with (fail)
 go_ret2
 exact ⟨rfl, HB.out⟩
theorem cut0_no (s t : ByteArray) (w : World) (hs : s.size ≤ 1000000) (ht2 : t.size ≤ 1000000) (h : (s.data.toList.take t.size == t.data.toList) = false) :
  Calls Tryz.prog 164 #[.string s, .string t] w fun e w' => e = .returned (.tuple #[.string s, .bool false]) ∧ Bel w w' := by
 have H := Lib.hid h; clear h
 go_enter Tryz.func164, Tryz.ntmps164
 go_wp2_with (fail)
 refine (has_any s t false w hs (by omega) H.out).mono ?_
 rintro e w1 ⟨rfl, hb⟩
 have HB := Lib.hid hb; clear hb
 go_wp2_with (fail)
 go_ret2
 exact ⟨rfl, HB.out⟩
theorem cut_yes (s t : ByteArray) (w : World) (hs : s.size ≤ 1000000) (ht2 : t.size ≤ s.size) (h : (s.data.toList.take t.size == t.data.toList) = true) :
  Calls Tryz.prog 149 #[.string s, .string t] w fun e w' => e = .returned (.tuple #[.string (s.extract t.size s.size), .bool true]) ∧ Bel w w' := by
 have H := Lib.hid h; clear h
 go_enter Tryz.func149, Tryz.ntmps149
 go_wp2_with (fail)
 refine (cut0_yes s t w hs ht2 H.out).mono ?_
 rintro e w1 ⟨rfl, hb⟩
 have HB := Lib.hid hb; clear hb
 go_wp2_with (fail)
 go_ret2
 exact ⟨rfl, HB.out⟩
theorem cut_no (s t : ByteArray) (w : World) (hs : s.size ≤ 1000000) (ht2 : t.size ≤ 1000000) (h : (s.data.toList.take t.size == t.data.toList) = false) :
  Calls Tryz.prog 149 #[.string s, .string t] w fun e w' => e = .returned (.tuple #[.string s, .bool false]) ∧ Bel w w' := by
 have H := Lib.hid h; clear h
 go_enter Tryz.func149, Tryz.ntmps149
 go_wp2_with (fail)
 refine (cut0_no s t w hs ht2 H.out).mono ?_
 rintro e w1 ⟨rfl, hb⟩
 have HB := Lib.hid hb; clear hb
 go_wp2_with (fail)
 go_ret2
 exact ⟨rfl, HB.out⟩
def numV (p nm : List UInt8) : Value := .tuple #[.int .i64 (segN p nm : Nat), .bool (decide (segN p nm ≠ 0))]
theorem numV_none {p nm : List UInt8} (h : segN p nm = 0) : numV p nm = .tuple #[.int .i64 0, .bool false] := by unfold numV; rw [h]; rfl
theorem numV_some {p nm : List UInt8} {n : Nat} (h : segN p nm = n) (hn : n ≠ 0) : numV p nm = .tuple #[.int .i64 n, .bool true] := by unfold numV; rw [h]; simp [hn]
theorem file_pre {p nm d : List UInt8} (h : nm = p ++ 46 :: d) (n : Nat) : nm = fileN p n ↔ d = Lib.itoa (n : Int) := by
 rw [h, fileN]
 simp
theorem file_of_pre (p : List UInt8) (n : Nat) : (fileN p n).take (p.length + 1) = p ++ [46] := by
 rw [fileN, show p ++ 46 :: Lib.itoa (n : Int) = (p ++ [46]) ++ Lib.itoa (n : Int) by simp]
 rw [List.take_left' (by simp)]
theorem atoi_file {d : List UInt8} {n : Nat} (h : d = Lib.itoa (n : Int)) (hn : n ≤ 9999999) : Lib.atoiAll d = .ok (n : Int) := by
 rw [h]; exact atoi_itoa n (by omega) (by omega)

set_option maxHeartbeats 4000000 in
theorem jnumber_any (w : World) (b f : Nat) (p : ByteArray) (most : Int) (s : ByteArray) (h : JAt w b f p most) (hp : p.size ≤ 100) (hs : s.size ≤ 1000000) (hstd : Std w) :
  Calls Tryz.prog 121 #[.pointer (some ⟨b, 0, none⟩), .string s] w fun e w' => e = .returned (numV p.data.toList s.data.toList) ∧ Bel w w' := by
 have HS := Lib.hid hstd; clear hstd
 have c1 := h.name
 clear h
 have n1 : ¬ 9223372036854775807 < p.size + 1 := by omega
 have hpt : (p ++ ⟨#[46]⟩ : ByteArray).data.toList = p.data.toList ++ [46] := by simp
 have hpz : (p ++ ⟨#[46]⟩ : ByteArray).size = p.size + 1 := by rw [ByteArray.size_append]; rfl
 have hpl : p.data.toList.length = p.size := rfl
 have hsl : s.data.toList.length = s.size := rfl
 obtain ⟨t, ht⟩ : ∃ t, t = (p ++ ⟨#[46]⟩ : ByteArray) := ⟨_, rfl⟩
 have HT := Lib.hid ht
 rw [← ht] at hpt hpz
 cases hpre : (s.data.toList.take t.size == t.data.toList) with
 | false =>
  have HN := Lib.hid (numV_none (p := p.data.toList) (nm := s.data.toList) (seg_none fun n h1 h2 e => by
   rw [beq_eq_false_iff_ne] at hpre
   apply hpre
   rw [e, hpz, ← hpl, file_of_pre, hpt]))
  have HP := Lib.hid hpre
  clear hpre hpt ht hpl hsl
  go_enter Tryz.func121, Tryz.ntmps121
  go_wp2_with (fail)
  rw [← HT.out]
  refine (cut_no s t _ hs (by omega) HP.out).mono ?_
  rintro e w1 ⟨rfl, hb⟩
  have HB := Lib.hid hb; clear hb
  go_wp2_with (fail)
  go_ret2
  exact ⟨by rw [HN.out]; rfl, HB.out⟩
 | true =>
  have hpe : s.data.toList.take t.size = p.data.toList ++ [46] := by rw [← hpt]; simpa using hpre
  obtain ⟨d, hd⟩ : ∃ d : ByteArray, d = s.extract t.size s.size := ⟨_, rfl⟩
  have hts : t.size ≤ s.size := by
   have h1 := congrArg List.length hpe
   rw [List.length_take, List.length_append, hpl, hsl] at h1
   simp at h1
   omega
  have hdl : d.data.toList = s.data.toList.drop t.size := by
   rw [hd, ByteArray.data_extract, Array.toList_extract, List.extract_eq_take_drop]
   exact List.take_of_length_le (by rw [List.length_drop, hsl]; omega)
  have hsd : s.data.toList = p.data.toList ++ 46 :: d.data.toList := by
   rw [hdl, show p.data.toList ++ 46 :: s.data.toList.drop t.size = (p.data.toList ++ [46]) ++ s.data.toList.drop t.size by simp, ← hpe, List.take_append_drop]
  have hdz : d.size ≤ 1000000 := by rw [hd, ByteArray.size_extract]; omega
  have HF := Lib.hid (fun n => file_pre hsd n)
  have HD := Lib.hid hd
  have HP := Lib.hid hpre
  clear hpre hpe hdl hd hpt ht hpl hsl hsd
  go_enter Tryz.func121, Tryz.ntmps121
  go_wp2_with (fail)
  rw [← HT.out]
  refine (cut_yes s t _ hs hts HP.out).mono ?_
  rintro e w1 ⟨rfl, hb⟩
  rw [← HD.out]
  have HB := Lib.hid hb; clear hb
  go_wp2_with (fail)
  refine (atoi_any d _ hdz (HS.out.bel HB.out)).mono ?_
  rintro e w2 (⟨v, rfl, hv, hb⟩ | ⟨v, T, q, rfl, hv, hb⟩)
  ·have hbd := Lib.atoiAll_bounds hv
   have HB2 := Lib.hid (HB.out.trans hb)
   have HV := Lib.hid hv
   clear hb hv
   by_cases hv1 : v < 1
   ·have HN := Lib.hid (numV_none (p := p.data.toList) (nm := s.data.toList) (seg_none fun n h1 h2 e => by
     have := atoi_file ((HF.out n).1 e) h2
     rw [HV.out] at this
     injection this with this
     omega))
    go_wp2_with (fail)
    go_ret2
    exact ⟨by rw [HN.out]; rfl, HB2.out⟩
   ·by_cases hv2 : 9999999 < v
    ·have HN := Lib.hid (numV_none (p := p.data.toList) (nm := s.data.toList) (seg_none fun n h1 h2 e => by
      have := atoi_file ((HF.out n).1 e) h2
      rw [HV.out] at this
      injection this with this
      omega))
     go_wp2_with (fail)
     go_ret2
     exact ⟨by rw [HN.out]; rfl, HB2.out⟩
    ·obtain ⟨n, rfl⟩ : ∃ n : Nat, v = n := ⟨v.toNat, by omega⟩
     cases hc : ((Lib.itoa (n : Int)) == d.toList) with
     | true =>
      have hdn : d.data.toList = Lib.itoa (n : Int) := by rw [beq_iff_eq, ByteArray.toList_eq] at hc; exact hc.symm
      have HN := Lib.hid (numV_some (p := p.data.toList) (nm := s.data.toList) (n := n) (by rw [(HF.out n).2 hdn]; exact seg_file _ n (by omega) (by omega)) (by omega))
      clear hdn
      go_wp2_with (first
       | (go_at_call 116; refine (itoa_any n (by omega) (by omega) _ (HS.out.bel HB2.out)).mono ?_; rintro e w3 ⟨rfl, hb⟩; have HB3 := Lib.hid (HB2.out.trans hb); clear hb))
      go_ret2
      exact ⟨by rw [HN.out]; rfl, HB3.out⟩
     | false =>
      have HN := Lib.hid (numV_none (p := p.data.toList) (nm := s.data.toList) (seg_none fun m h1 h2 e => by
       have h3 := (HF.out m).1 e
       have := atoi_file h3 h2
       rw [HV.out] at this
       injection this with this
       have : n = m := by omega
       subst this
       rw [beq_eq_false_iff_ne, ByteArray.toList_eq] at hc
       exact hc h3.symm))
      go_wp2_with (first
       | (go_at_call 116; refine (itoa_any n (by omega) (by omega) _ (HS.out.bel HB2.out)).mono ?_; rintro e w3 ⟨rfl, hb⟩; have HB3 := Lib.hid (HB2.out.trans hb); clear hb))
      go_ret2
      exact ⟨by rw [HN.out]; rfl, HB3.out⟩
  ·have HN := Lib.hid (numV_none (p := p.data.toList) (nm := s.data.toList) (seg_none fun n h1 h2 e => hv _ (atoi_file ((HF.out n).1 e) h2)))
   have HB2 := Lib.hid (HB.out.trans hb)
   clear hb hv
   go_wp2_with (fail)
   go_ret2
   exact ⟨by rw [HN.out]; rfl, HB2.out⟩

theorem dval_app_le (l m : List UInt8) : dvalN l ≤ dvalN (l ++ m) := by
 refine rev_ind (P := fun m => dvalN l ≤ dvalN (l ++ m)) (by simp) (fun m x ih => ?_) m
 rw [← List.append_assoc, dval_snoc]; omega
theorem dval_take_le (l : List UInt8) (k : Nat) : dvalN (l.take k) ≤ dvalN l := by
 conv => rhs; rw [← List.take_append_drop k l]
 exact dval_app_le _ _
theorem dval_step (l : List UInt8) (k : Nat) (h : k < l.length) : dvalN (l.take (k + 1)) = 10 * dvalN (l.take k) + (l[k].toNat - 48) := by
 rw [List.take_add_one, List.getElem?_eq_getElem h]
 exact dval_snoc _ _
theorem seg_dval {p nm : List UInt8} {m : Nat} (h : segN p nm = m) (hm : m ≠ 0) : dvalN (nm.drop (p.length + 1)) = m ∧ nm = fileN p m ∧ m ≤ 9999999 ∧ ∀ c ∈ nm.drop (p.length + 1), 48 ≤ c.toNat ∧ c.toNat ≤ 57 := by
 obtain ⟨h1, h2, h3⟩ := seg_pos (p := p) (nm := nm) (by omega)
 rw [h] at h1 h3
 refine ⟨by rw [h1, file_drop, dval_digits], h1, h3, ?_⟩
 rw [h1, file_drop]
 exact digits_all m
def RnRel (p s : List UInt8) (w : World) (nv iv : Value) (x : World) : Prop :=
 ∃ (q m : Nat), iv = .int .i64 q ∧ nv = .int .i64 m ∧ p.length + 1 ≤ q ∧ (q ≤ s.length ∨ q = p.length + 1) ∧ m = dvalN ((s.drop (p.length + 1)).take (q - (p.length + 1))) ∧ m ≤ 100000000 ∧ Bel w x

set_option maxHeartbeats 4000000 in
theorem rnumber_any (w : World) (b f : Nat) (p : ByteArray) (most : Int) (s : ByteArray) (h : JAt w b f p most) (hp : p.size ≤ 100) (hs : s.size ≤ 1000000) :
  Calls Tryz.prog 126 #[.pointer (some ⟨b, 0, none⟩), .string s] w fun e w' => e = .returned (.int .i64 (segN p.data.toList s.data.toList : Nat)) ∧ Bel w w' := by
 have HJ := Lib.hid h
 have c1 := h.name
 clear h
 have hpl : p.data.toList.length = p.size := rfl
 have hsl : s.data.toList.length = s.size := rfl
 obtain ⟨g, hg⟩ : ∃ g, g = segN p.data.toList s.data.toList := ⟨_, rfl⟩
 have HG := Lib.hid hg.symm
 rw [← hg]
 clear hg
 go_enter Tryz.func126, Tryz.ntmps126
 go_wp2_with (fail)
 go_loopw [6, 7] (fun nv iv x => RnRel p.data.toList s.data.toList w nv iv x) (fun _ iv _ => s.size - (intOf iv).toNat)
 case atStart => exact ⟨p.size + 1, 0, by go_num, rfl, by rw [hpl]; omega, Or.inr (by rw [hpl]), by rw [hpl]; simp [dvalN], by omega, Bel.refl w⟩
 case round =>
  obtain ⟨q, m, rfl, rfl, hq, hq2, hm, hmx, hb⟩ := hrel
  rw [hpl] at hq hq2
  rw [hsl] at hq2
  have HM := Lib.hid hm; clear hm
  have HB := Lib.hid hb; clear hb
  have END : Hid (∀ (h : ¬ (q < s.size ∧ m ≤ 9999999)), g ≠ 0 → m ≤ 9999999 ∧ g = m) := Lib.hid fun h hg0 => by
   obtain ⟨h1, h2, h3, h4⟩ := seg_dval HG.out hg0
   have hle := dval_take_le (s.data.toList.drop (p.data.toList.length + 1)) (q - (p.data.toList.length + 1))
   rw [← HM.out, h1] at hle
   have hqs : s.size ≤ q := by
    rcases Nat.lt_or_ge q s.size with h5 | h5
    ·exact absurd ⟨h5, by omega⟩ h
    ·exact h5
   refine ⟨by omega, ?_⟩
   rw [HM.out, List.take_of_length_le (by rw [List.length_drop, hsl, hpl]; omega), h1]
  by_cases hgo : q < s.size ∧ m ≤ 9999999
  ·obtain ⟨hlt, hm9⟩ := hgo
   have hj : q - (p.data.toList.length + 1) < (s.data.toList.drop (p.data.toList.length + 1)).length := by rw [List.length_drop, hsl, hpl]; omega
   have hst := dval_step (s.data.toList.drop (p.data.toList.length + 1)) (q - (p.data.toList.length + 1)) hj
   have hget : (s.data.toList.drop (p.data.toList.length + 1))[q - (p.data.toList.length + 1)] = s[q] := by
    rw [List.getElem_drop]
    show s.data.toList[_] = s.data[q]
    rw [Array.getElem_toList]
    congr 1
    rw [hpl]; omega
   rw [hget, ← HM.out] at hst
   have HST := Lib.hid hst
   have BAD : Hid (¬ (48 ≤ s[q].toNat ∧ s[q].toNat ≤ 57) → g = 0) := Lib.hid fun h => by
    rcases Nat.eq_zero_or_pos g with h0 | h0
    ·exact h0
    ·obtain ⟨h1, h2, h3, h4⟩ := seg_dval HG.out (by omega)
     have := h4 s[q] (by rw [← hget]; exact List.getElem_mem hj)
     exact absurd this h
   have hc := s[q].toNat_lt
   clear hst hget hj
   by_cases h1 : (s[q].toNat : Int) < 48
   ·have HZ := Lib.hid (BAD.out (by omega))
    go_wp2_with (fail)
    go_ret
    exact ⟨by rw [HZ.out]; rfl, HB.out⟩
   ·by_cases h2 : (57 : Int) < (s[q].toNat : Int)
    ·have HZ := Lib.hid (BAD.out (by omega))
     go_wp2_with (fail)
     go_ret
     exact ⟨by rw [HZ.out]; rfl, HB.out⟩
    ·go_wp2_with (fail)
     go_roundw
     case rel =>
      refine ⟨q + 1, 10 * m + (s[q].toNat - 48), by go_num, ?_, by rw [hpl]; omega, Or.inl (by rw [hsl]; omega), ?_, by omega, HB.out⟩
      ·refine congrArg _ ?_
       omega
      ·rw [← HST.out]
       congr 2
       rw [hpl]; omega
     case measure => simp [intOf]; omega
  ·have EN := Lib.hid (END.out hgo)
   by_cases hm1 : (m : Int) < 1
   ·have HZ := Lib.hid (show g = 0 by
     rcases Nat.eq_zero_or_pos g with h0 | h0
     ·exact h0
     ·have := EN.out (by omega); omega)
    go_wp2_with (fail)
    all_goals go_ret
    all_goals exact ⟨by rw [HZ.out]; rfl, HB.out⟩
   ·by_cases hm9 : (9999999 : Int) < (m : Int)
    ·have HZ := Lib.hid (show g = 0 by
      rcases Nat.eq_zero_or_pos g with h0 | h0
      ·exact h0
      ·have := EN.out (by omega); omega)
     go_wp2_with (fail)
     all_goals go_ret
     all_goals exact ⟨by rw [HZ.out]; rfl, HB.out⟩
    ·have hlt : ¬ q < s.size := fun h => hgo ⟨h, by omega⟩
     have hfz := str_list (fileN p.data.toList m)
     cases hc : (s.toList == fileN p.data.toList m) with
     | true =>
      have hsf : s.data.toList = fileN p.data.toList m := by rw [beq_iff_eq, ByteArray.toList_eq] at hc; exact hc
      have HZ := Lib.hid (show g = m by rw [← HG.out, hsf]; exact seg_file _ m (by omega) (by omega))
      clear hsf
      go_wp2_with (first
       | (go_at_call 100; refine (rfile_any _ b f p most m (HJ.out.bel HB.out) hp (by omega)).mono ?_; rintro e w3 ⟨rfl, hb⟩; have HB3 := Lib.hid (HB.out.trans hb); clear hb))
      all_goals go_ret
      all_goals exact ⟨by rw [HZ.out]; rfl, HB3.out⟩
     | false =>
      have HZ := Lib.hid (show g = 0 by
       rcases Nat.eq_zero_or_pos g with h0 | h0
       ·exact h0
       ·have h1 := EN.out (by omega)
        obtain ⟨_, h2, _, _⟩ := seg_dval HG.out (by omega)
        rw [beq_eq_false_iff_ne, ByteArray.toList_eq] at hc
        rw [h1.2] at h2
        exact absurd h2 hc)
      go_wp2_with (first
       | (go_at_call 100; refine (rfile_any _ b f p most m (HJ.out.bel HB.out) hp (by omega)).mono ?_; rintro e w3 ⟨rfl, hb⟩; have HB3 := Lib.hid (HB.out.trans hb); clear hb))
      all_goals go_ret
      all_goals exact ⟨by rw [HZ.out]; rfl, HB3.out⟩
end Go.Proofs.YtfbiinnenlgkfaaGreatDoor
