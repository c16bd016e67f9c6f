/- JName, JOps, JList, JFirst, JRRead, JNum, JRNum, JRead, JAll, NRef2, NRef3, NPUnp, NPPack, NPCop, NAs, NAlike, NSame, laid together. -/
import Derived.Test.YtfbiinnenlgkfaaGreatDoorQ17
import Derived.Test.YtfbiinnenlgkfaaGreatDoorQ20
import Derived.Test.YtfbiinnenlgkfaaGreatDoorQ22
import Derived.Test.YtfbiinnenlgkfaaGreatDoorQ7
import Derived.Lib.AtoiAllCases
import Derived.Test.YtfbiinnenlgkfaaGreatDoorQ2
import Derived.Test.YtfbiinnenlgkfaaGreatDoorQ16
import Derived.Test.YtfbiinnenlgkfaaGreatDoorQ19
import Derived.Test.YtfbiinnenlgkfaaGreatDoorQ5
import Derived.Test.YtfbiinnenlgkfaaGreatDoorQ9
import Derived.Deep.RegionHeld
import Derived.Test.YtfbiinnenlgkfaaGreatDoorQ6
import Derived.Test.YtfbiinnenlgkfaaGreatDoorQ27
import Derived.Lib.SliceRun
import Derived.Test.YtfbiinnenlgkfaaGreatDoorQ11
import Derived.BigQuiet
set_option linter.unusedSimpArgs false
set_option linter.unusedVariables false
namespace Go.Proofs.YtfbiinnenlgkfaaGreatDoor
open Go.RowKit Go.Deep

def letJ (c : UInt8) : Bool := decide (97 ≤ c.toNat) && decide (c.toNat ≤ 122)
def nameJ (l : List UInt8) : Bool := l.all letJ && (decide (1 ≤ l.length) && decide (l.length ≤ 8))
theorem nameJ_bad (l : List UInt8) (k : Nat) (h : k < l.length) (hb : letJ l[k] = false) : nameJ l = false := by
 have : l.all letJ = false := by
  rw [List.all_eq_false]
  exact ⟨l[k], List.getElem_mem h, by simp [hb]⟩
 unfold nameJ
 rw [this]; rfl
theorem letJ_ways (c : UInt8) : (letJ c = true ∧ ¬ (c.toNat : Int) < 97 ∧ ¬ (122 : Int) < (c.toNat : Int)) ∨ (letJ c = false ∧ (c.toNat : Int) < 97) ∨ (letJ c = false ∧ ¬ (c.toNat : Int) < 97 ∧ (122 : Int) < (c.toNat : Int)) := by
 unfold letJ
 by_cases h1 : c.toNat < 97
 ·exact Or.inr (Or.inl ⟨by simp; omega, by omega⟩)
 ·by_cases h2 : 122 < c.toNat
  ·exact Or.inr (Or.inr ⟨by simp; omega, by omega, by omega⟩)
  ·exact Or.inl ⟨by simp; omega, by omega, by omega⟩
theorem allJ_take (l : List UInt8) (k : Nat) (h : k < l.length) (h1 : (l.take k).all letJ = true) (h2 : letJ l[k] = true) : (l.take (k + 1)).all letJ = true := by
 rw [List.take_add_one, List.getElem?_eq_getElem h, List.all_append, h1]
 simp [h2]
def NjRel (l : List UInt8) (i : Value) : Prop := ∃ k : Nat, i = .int .i64 k ∧ k ≤ l.length ∧ (l.take k).all letJ = true

set_option maxHeartbeats 4000000 in
theorem jisname_any (s : ByteArray) (w : World) (hs : s.size ≤ maxLen) :
  Calls Tryz.prog 93 #[.string s] w fun e w' => e = .returned (.bool (nameJ s.data.toList)) ∧ Drw w w' := by
 unfold maxLen at hs
 have hsl : s.data.toList.length = s.size := rfl
 by_cases h0 : s.size = 0
 ·obtain rfl : s = ⟨#[]⟩ := by apply ByteArray.ext; exact Array.eq_empty_of_size_eq_zero h0
  have HN := Lib.hid (show nameJ ((⟨#[]⟩ : ByteArray)).data.toList = false from rfl)
  clear hsl h0
  go_enter Tryz.func93, Tryz.ntmps93
  go_wp2_with (fail)
  go_ret
  exact ⟨by rw [HN.out]; rfl, Drw.refl w⟩
 have hne : s.toList.isEmpty = false := by
  rw [ByteArray.toList_eq]
  cases hd : s.data.toList with
  | nil => rw [hd] at hsl; simp at hsl; omega
  | cons => rfl
 by_cases h8 : 8 < s.size
 ·have HN := Lib.hid (show nameJ s.data.toList = false by
   unfold nameJ
   rw [hsl]
   simp; omega)
  clear hsl
  go_enter Tryz.func93, Tryz.ntmps93
  go_wp2_with (fail)
  go_ret
  exact ⟨by rw [HN.out]; rfl, Drw.refl w⟩
 go_enter Tryz.func93, Tryz.ntmps93
 go_wp2_with (fail)
 go_loopw [13] (fun i x => NjRel s.data.toList i ∧ Drw w x) (fun i _ => s.size - (intOf i).toNat)
 case atStart => exact ⟨⟨0, rfl, Nat.zero_le _, rfl⟩, Drw.refl w⟩
 case round =>
  obtain ⟨⟨k, rfl, hk, hall⟩, hw⟩ := hrel
  have HW := Lib.hid hw; clear hw
  have HA := Lib.hid hall; clear hall
  rw [hsl] at hk
  by_cases hlt : k < s.size
  ·have HB := Lib.hid (show letJ s[k] = false → nameJ s.data.toList = false from fun h => nameJ_bad s.data.toList k hlt h)
   have HT := Lib.hid (show letJ s[k] = true → (s.data.toList.take (k + 1)).all letJ = true from fun h => allJ_take s.data.toList k hlt HA.out h)
   rcases letJ_ways s[k] with ⟨hl, h1, h2⟩ | ⟨hl, h1⟩ | ⟨hl, h1, h2⟩
   ·have HT2 := Lib.hid (HT.out hl); clear hl
    go_wp2_with (fail)
    go_roundw
    case rel => exact ⟨⟨k + 1, by go_num, by omega, HT2.out⟩, HW.out⟩
    case measure => simp [intOf]; omega
   ·have HN := Lib.hid (HB.out hl); clear hl
    go_wp2_with (fail)
    go_ret
    exact ⟨by rw [HN.out]; rfl, HW.out⟩
   ·have HN := Lib.hid (HB.out hl); clear hl
    go_wp2_with (fail)
    go_ret
    exact ⟨by rw [HN.out]; rfl, HW.out⟩
  ·obtain rfl : k = s.size := by omega
   have HN := Lib.hid (show nameJ s.data.toList = true by
    have := HA.out
    rw [← hsl, List.take_length] at this
    unfold nameJ
    rw [this, hsl]; simp; omega)
   go_wp2_with (fail)
   go_ret
   exact ⟨by rw [HN.out]; rfl, HW.out⟩
set_option maxHeartbeats 4000000 in
theorem jnamed_any (s : ByteArray) (w : World) (hs : s.size ≤ maxLen) :
  Calls Tryz.prog 98 #[.string s] w fun e w' => e = .returned (.bool (nameJ s.data.toList)) ∧ Drw w w' := by
 unfold maxLen at hs
 have hsl : s.data.toList.length = s.size := rfl
 go_enter Tryz.func98, Tryz.ntmps98
 go_wp2_with (fail)
 go_loopw [3] (fun i x => NjRel s.data.toList i ∧ Drw w x) (fun i _ => s.size - (intOf i).toNat)
 case atStart => exact ⟨⟨0, rfl, Nat.zero_le _, rfl⟩, Drw.refl w⟩
 case round =>
  obtain ⟨⟨k, rfl, hk, hall⟩, hw⟩ := hrel
  have HW := Lib.hid hw; clear hw
  have HA := Lib.hid hall; clear hall
  rw [hsl] at hk
  by_cases hlt : k < s.size
  ·have HB := Lib.hid (show letJ s[k] = false → nameJ s.data.toList = false from fun h => nameJ_bad s.data.toList k hlt h)
   have HT := Lib.hid (show letJ s[k] = true → (s.data.toList.take (k + 1)).all letJ = true from fun h => allJ_take s.data.toList k hlt HA.out h)
   rcases letJ_ways s[k] with ⟨hl, h1, h2⟩ | ⟨hl, h1⟩ | ⟨hl, h1, h2⟩
   ·have HT2 := Lib.hid (HT.out hl); clear hl
    go_wp2_with (fail)
    go_roundw
    case rel => exact ⟨⟨k + 1, by go_num, by omega, HT2.out⟩, HW.out⟩
    case measure => simp [intOf]; omega
   ·have HN := Lib.hid (HB.out hl); clear hl
    go_wp2_with (fail)
    go_ret
    exact ⟨by rw [HN.out]; rfl, HW.out⟩
   ·have HN := Lib.hid (HB.out hl); clear hl
    go_wp2_with (fail)
    go_ret
    exact ⟨by rw [HN.out]; rfl, HW.out⟩
  ·obtain rfl : k = s.size := by omega
   have hall := HA.out
   rw [← hsl, List.take_length] at hall
   have HN := Lib.hid (show nameJ s.data.toList = (decide (1 ≤ s.size) && decide (s.size ≤ 8)) by
    unfold nameJ
    rw [hall, hsl]; simp)
   clear hall
   by_cases h1 : s.size = 0
   ·go_wp2_with (fail)
    go_ret
    exact ⟨by rw [HN.out, h1]; rfl, HW.out⟩
   ·by_cases h8 : 8 < s.size
    ·have HN8 := Lib.hid (show nameJ s.data.toList = false by rw [HN.out]; simp; omega)
     go_wp2_with (fail)
     go_ret
     exact ⟨by rw [HN8.out]; show Ending.returned (.bool (decide ((s.size : Int) ≤ 8))) = _; rw [decide_eq_false (by omega)], HW.out⟩
    ·have HN8 := Lib.hid (show nameJ s.data.toList = true by rw [HN.out]; simp; omega)
     go_wp2_with (fail)
     go_ret
     exact ⟨by rw [HN8.out]; show Ending.returned (.bool (decide ((s.size : Int) ≤ 8))) = _; rw [decide_eq_true (by omega)], HW.out⟩

structure JAt (x : World) (b f : Nat) (p : ByteArray) (most : Int) : Prop where
 files : x.cell? ⟨b, 0, none⟩ = some (.pointer (some ⟨f, 0, none⟩))
 name : x.cell? ⟨b, 1, none⟩ = some (.string p)
 most : x.cell? ⟨b, 2, none⟩ = some (.int .i64 most)
theorem JAt.lt {x : World} {b f : Nat} {p : ByteArray} {most : Int} (h : JAt x b f p most) : b < x.heap.size := block_lt_of_cell h.files
theorem JAt.keep {x y : World} {b f : Nat} {p : ByteArray} {most : Int} (h : JAt x b f p most) (hk : y.heap[b]? = x.heap[b]?) : JAt y b f p most :=
 ⟨(World.cell?_of_block hk).trans h.files, (World.cell?_of_block hk).trans h.name, (World.cell?_of_block hk).trans h.most⟩
theorem JAt.bel {x y : World} {b f : Nat} {p : ByteArray} {most : Int} (h : JAt x b f p most) (hb : Bel x y) : JAt y b f p most := h.keep (Below.block hb b h.lt)
theorem ba_file (p : ByteArray) (n : Nat) : p ++ ⟨#[46]⟩ ++ ⟨(Lib.itoa (n : Int)).toArray⟩ = (⟨(fileN p.data.toList n).toArray⟩ : ByteArray) := by
 apply ByteArray.ext; simp [fileN]
theorem itoa_short {n : Nat} (hn : n ≤ 10000000) : (Lib.itoa (n : Int)).length ≤ 21 := Lib.itoa_length_le n (by omega) (by omega)
theorem file_len (p : List UInt8) {n : Nat} (hn : n ≤ 10000000) : (fileN p n).length ≤ p.length + 22 := by
 have := itoa_short hn
 unfold fileN; rw [List.length_append, List.length_cons]; omega

set_option maxHeartbeats 4000000 in
set_option maxRecDepth 20000 in
theorem file_any (w : World) (b f : Nat) (p : ByteArray) (most : Int) (n : Nat) (h : JAt w b f p most) (hp : p.size ≤ 100) (hn : n ≤ 10000000) (hstd : Std w) :
  Calls Tryz.prog 84 #[.pointer (some ⟨b, 0, none⟩), .int .i64 n] w fun e w' => e = .returned (.string ⟨(fileN p.data.toList n).toArray⟩) ∧ Bel w w' := by
 have HS := Lib.hid hstd; clear hstd
 have hil := itoa_short hn
 have hiz := str_len (Lib.itoa (n : Int))
 have c1 := h.name
 have n1 : ¬ 9223372036854775807 < p.size + 1 := by omega
 go_enter Tryz.func84, Tryz.ntmps84
 go_wp2_with (fail)
 refine wp_region_held_drew (S := fun z => z.cell? ⟨b, 1, none⟩ = some (.string p)) (by kernel_rfl) c1 (fun hHeld => ?_)
 refine tq ⟨some 5, .move (.tmp 0), 108, "journal.go:145", #[], none⟩ ?_ 0 rfl ?_ ?_;rotate_left;·(intros;go_simp<;>with_reducible rfl)
 try simp only[Act.put,sqA,sqB,sqC]
 refine tq ⟨some 6, .nilCheck (.tmp 5), 0, "journal.go:145", #[⟨0, .data⟩], none⟩ ?_ 1 rfl ?_ ?_;rotate_left;·(intros;go_simp<;>with_reducible rfl)
 try simp only[Act.put,sqA,sqB,sqC]
 refine tq ⟨some 7, .fieldAddr 153 (.tmp 6) 1, 0, "journal.go:145", #[⟨1, .data⟩], none⟩ ?_ 2 rfl ?_ ?_;rotate_left;·(intros;go_simp<;>with_reducible rfl)
 try simp only[Act.put,sqA,sqB,sqC]
 refine tq ⟨some 8, .load 9 (.tmp 7), 9, "journal.go:145", #[⟨2, .data⟩], none⟩ ?_ 3 rfl ?_ ?_;rotate_left;·(intros;go_simp<;>with_reducible rfl)
 try simp only[Act.put,sqA,sqB,sqC]
 refine tq ⟨some 9, .binOp .add 9 (.tmp 8) (.const (.string { data := #[46] })) 9, 9, "journal.go:145", #[⟨3, .data⟩], none⟩ ?_ 4 rfl ?_ ?_;rotate_left;·(intros;go_simp<;>with_reducible rfl)
 try simp only[Act.put,sqA,sqB,sqC]
 refine tq ⟨some 10, .move (.tmp 1), 3, "journal.go:145", #[], none⟩ ?_ 5 rfl ?_ ?_;rotate_left;·(intros;go_simp<;>with_reducible rfl)
 try simp only[Act.put,sqA,sqB,sqC]
 refine wpAnyH_ready (rs := [6]) (by kernel_rfl) (by simp) ?_
 refine ar1 ⟨some 11, .call ⟨.value (.func 116), #[.tmp 10], #[3]⟩, 9, "journal.go:145", #[⟨5, .data⟩], none⟩ rfl (fun K hK => ?_)
 go_simp
 refine (itoa_any n (by omega) (by omega) _ HS.out.drew).mono ?_
 rintro e w1 ⟨rfl, hb1⟩
 have HB := Lib.hid ((Bel.refl w).drew.trans hb1)
 have c2 := cell_later HB.out c1
 clear hb1
 dsimp only
 refine hK.out _ _ c2 (fun hHeld => ?_);clear hK K;try simp only[Act.put,sqA,sqB,sqC]
 refine tq ⟨some 12, .binOp .add 9 (.tmp 9) (.tmp 11) 9, 9, "journal.go:145", #[⟨4, .data⟩, ⟨6, .data⟩], none⟩ ?_ 7 rfl ?_ ?_
 rotate_left
 ·(intro w hSw; (try dsimp only at hSw); first | (go_simp; rw [if_neg (by omega)]; done))
 try simp only[Act.put,sqA,sqB,sqC]
 refine tq ⟨some 4, .assign (.tmp 12), 9, "journal.go:145", #[⟨7, .data⟩, ⟨6, .chain⟩, ⟨0, .phase⟩, ⟨1, .phase⟩, ⟨2, .phase⟩, ⟨3, .phase⟩, ⟨4, .phase⟩, ⟨5, .phase⟩, ⟨6, .phase⟩, ⟨7, .phase⟩], none⟩ ?_ 8 rfl ?_ ?_;rotate_left;·(intros;go_simp<;>with_reducible rfl)
 try simp only[Act.put,sqA,sqB,sqC]
 refine wpAnyH_done (by kernel_rfl) ?_ _
 go_wp2_with (fail)
 go_ret
 exact ⟨by rw [← ba_file]; rfl, HB.out⟩
set_option maxHeartbeats 4000000 in
set_option maxRecDepth 20000 in
theorem rfile_any (w : World) (b f : Nat) (p : ByteArray) (most : Int) (n : Nat) (h : JAt w b f p most) (hp : p.size ≤ 100) (hn : n ≤ 10000000) :
  Calls Tryz.prog 100 #[.pointer (some ⟨b, 0, none⟩), .int .i64 n] w fun e w' => e = .returned (.string ⟨(fileN p.data.toList n).toArray⟩) ∧ Bel w w' := by
 have hil := itoa_short hn
 have hiz := str_len (Lib.itoa (n : Int))
 have c1 := h.name
 have n1 : ¬ 9223372036854775807 < p.size + 1 := by omega
 go_enter Tryz.func100, Tryz.ntmps100
 go_wp2_with (fail)
 refine wp_region_held_drew (S := fun z => z.cell? ⟨b, 1, none⟩ = some (.string p)) (by kernel_rfl) c1 (fun hHeld => ?_)
 refine tq ⟨some 5, .move (.tmp 0), 60, "ref.go:92", #[], none⟩ ?_ 0 rfl ?_ ?_;rotate_left;·(intros;go_simp<;>with_reducible rfl)
 try simp only[Act.put,sqA,sqB,sqC]
 refine tq ⟨some 6, .nilCheck (.tmp 5), 0, "ref.go:92", #[⟨0, .data⟩], none⟩ ?_ 1 rfl ?_ ?_;rotate_left;·(intros;go_simp<;>with_reducible rfl)
 try simp only[Act.put,sqA,sqB,sqC]
 refine tq ⟨some 7, .fieldAddr 169 (.tmp 6) 1, 0, "ref.go:92", #[⟨1, .data⟩], none⟩ ?_ 2 rfl ?_ ?_;rotate_left;·(intros;go_simp<;>with_reducible rfl)
 try simp only[Act.put,sqA,sqB,sqC]
 refine tq ⟨some 8, .load 9 (.tmp 7), 9, "ref.go:92", #[⟨2, .data⟩], none⟩ ?_ 3 rfl ?_ ?_;rotate_left;·(intros;go_simp<;>with_reducible rfl)
 try simp only[Act.put,sqA,sqB,sqC]
 refine tq ⟨some 9, .binOp .add 9 (.tmp 8) (.const (.string { data := #[46] })) 9, 9, "ref.go:92", #[⟨3, .data⟩], none⟩ ?_ 4 rfl ?_ ?_;rotate_left;·(intros;go_simp<;>with_reducible rfl)
 try simp only[Act.put,sqA,sqB,sqC]
 refine tq ⟨some 10, .move (.tmp 1), 3, "ref.go:92", #[], none⟩ ?_ 5 rfl ?_ ?_;rotate_left;·(intros;go_simp<;>with_reducible rfl)
 try simp only[Act.put,sqA,sqB,sqC]
 refine wpAnyH_ready (rs := [6]) (by kernel_rfl) (by simp) ?_
 refine ar1 ⟨some 11, .call ⟨.value (.func 127), #[.tmp 10], #[3]⟩, 9, "ref.go:92", #[⟨5, .data⟩], none⟩ rfl (fun K hK => ?_)
 go_simp
 refine (ref_decimal_any n (by omega) (by omega) _).mono ?_
 rintro e w1 ⟨rfl, hb1⟩
 have HB := Lib.hid ((Bel.refl w).drew.trans hb1.bel)
 have c2 := cell_later HB.out c1
 clear hb1
 dsimp only
 refine hK.out _ _ c2 (fun hHeld => ?_);clear hK K;try simp only[Act.put,sqA,sqB,sqC]
 refine tq ⟨some 12, .binOp .add 9 (.tmp 9) (.tmp 11) 9, 9, "ref.go:92", #[⟨4, .data⟩, ⟨6, .data⟩], none⟩ ?_ 7 rfl ?_ ?_
 rotate_left
 ·(intro w hSw; (try dsimp only at hSw); first | (go_simp; rw [if_neg (by omega)]; done))
 try simp only[Act.put,sqA,sqB,sqC]
 refine tq ⟨some 4, .assign (.tmp 12), 9, "ref.go:92", #[⟨7, .data⟩, ⟨6, .chain⟩, ⟨0, .phase⟩, ⟨1, .phase⟩, ⟨2, .phase⟩, ⟨3, .phase⟩, ⟨4, .phase⟩, ⟨5, .phase⟩, ⟨6, .phase⟩, ⟨7, .phase⟩], none⟩ ?_ 8 rfl ?_ ?_;rotate_left;·(intros;go_simp<;>with_reducible rfl)
 try simp only[Act.put,sqA,sqB,sqC]
 refine wpAnyH_done (by kernel_rfl) ?_ _
 go_wp2_with (fail)
 go_ret
 exact ⟨by rw [← ba_file]; rfl, HB.out⟩
end Go.Proofs.YtfbiinnenlgkfaaGreatDoor
namespace Go.Proofs.YtfbiinnenlgkfaaGreatDoor

theorem mem_segs_get {p : List UInt8} {L : List FI} (hs : Srt L) {n : Nat} : n ∈ segsL p L ↔ 1 ≤ n ∧ n ≤ 9999999 ∧ (getF (fileN p n) L).isSome = true := by
 rw [mem_segs_file]
 constructor
 ·rintro ⟨h1, h2, x, hx, hn⟩
  refine ⟨h1, h2, ?_⟩
  rw [← hn, getF_of_mem hs hx]; rfl
 ·rintro ⟨h1, h2, h3⟩
  obtain ⟨x, hx⟩ := Option.isSome_iff_exists.1 h3
  exact ⟨h1, h2, x, getF_mem hx, getF_name hx⟩
theorem segs_names {p : List UInt8} {L K : List FI} (h : L.map (·.name) = K.map (·.name)) : segsL p L = segsL p K := by
 have e : ∀ L : List FI, segsL p L = (L.map (·.name)).foldl (fun out nm => if segN p nm = 0 then out else insN (segN p nm) out) [] := fun L => by
  unfold segsL; rw [List.foldl_map]
 rw [e, e, h]
theorem last_names {p : List UInt8} {L K : List FI} (h : L.map (·.name) = K.map (·.name)) : lastN p L = lastN p K := by unfold lastN; rw [segs_names h]
theorem ins_names {y : FI} {L : List FI} (hs : Srt L) (h : (getF y.name L).isSome = true) : (insS y L).map (·.name) = L.map (·.name) := by
 induction L with
 | nil => cases h
 | cons x L ih =>
  rw [srt_cons] at hs
  rw [getF_cons] at h
  rw [ins_cons]
  by_cases hb : Op.bytesLess x.name y.name = true
  ·rw [if_pos hb, List.map_cons, List.map_cons, ih hs.2 (by rwa [if_neg (bl_ne hb)] at h)]
  ·rw [if_neg hb]
   by_cases he : x.name = y.name
   ·rw [if_pos he, List.map_cons, List.map_cons, he]
   ·rw [Bool.not_eq_true] at hb
    rw [if_neg he, getF_low (fun z hz => bl_trans (bl_total hb he) (hs.1 z hz))] at h
    cases h
theorem ins_perm' {y : FI} {L : List FI} (hs : Srt L) (h : getF y.name L = none) : (insS y L).Perm (y :: L) := by
 induction L with
 | nil => exact List.Perm.refl _
 | cons x L ih =>
  rw [srt_cons] at hs
  rw [getF_cons] at h
  rw [ins_cons]
  by_cases he : x.name = y.name
  ·rw [if_pos he] at h; cases h
  ·rw [if_neg he] at h
   by_cases hb : Op.bytesLess x.name y.name = true
   ·rw [if_pos hb]
    exact ((ih hs.2 h).cons x).trans (List.Perm.swap y x L)
   ·rw [if_neg hb, if_neg he]
theorem out_perm {nm : List UInt8} {L : List FI} {y : FI} (hs : Srt L) (h : getF nm L = some y) : L.Perm (y :: outS nm L) := by
 induction L with
 | nil => cases h
 | cons x L ih =>
  rw [srt_cons] at hs
  rw [getF_cons] at h
  rw [out_cons]
  by_cases hb : Op.bytesLess x.name nm = true
  ·rw [if_neg (bl_ne hb)] at h
   rw [if_pos hb]
   exact ((ih hs.2 h).cons x).trans (List.Perm.swap y x _)
  ·rw [if_neg hb]
   by_cases he : x.name = nm
   ·rw [if_pos he] at h ⊢
    obtain rfl : x = y := by simpa using h
    exact List.Perm.refl _
   ·rw [Bool.not_eq_true] at hb
    rw [if_neg he, getF_low (fun z hz => bl_trans (bl_total hb he) (hs.1 z hz))] at h
    cases h
theorem col_perm {p : List UInt8} {L K : List FI} (h : L.Perm K) : (colL p L).Perm (colL p K) := (h.map _).filter _
theorem segs_of_perm {p : List UInt8} {L : List FI} {l : List Nat} (h : (colL p L).Perm l) (hl : l.Pairwise (· ≤ ·)) : segsL p L = l :=
 List.Perm.eq_of_pairwise (le := fun x y : Nat => x ≤ y) (fun a b _ _ h1 h2 => Nat.le_antisymm h1 h2) (segs_sorted p L) hl ((segs_perm p L).trans h)
theorem segs_next {p : List UInt8} {L : List FI} {y : FI} {n : Nat} (hs : Srt L) (hn : n = lastN p L) (h9 : n < 9999999) (hy : y.name = fileN p (n + 1)) : getF y.name L = none ∧ segsL p (insS y L) = segsL p L ++ [n + 1] := by
 have hnone : getF y.name L = none := by
  cases h : getF y.name L with
  | none => rfl
  | some x =>
   exfalso
   have : n + 1 ∈ segsL p L := (mem_segs_get hs).2 ⟨by omega, by omega, by rw [← hy, h]; rfl⟩
   have := last_max this
   omega
 refine ⟨hnone, segs_of_perm ?_ ?_⟩
 ·refine (col_perm (ins_perm' hs hnone)).trans ?_
  have : colL p (y :: L) = (n + 1) :: colL p L := by
   unfold colL
   rw [List.map_cons, hy, seg_file p (n + 1) (by omega) (by omega), List.filter_cons]
   simp
  rw [this]
  exact ((segs_perm p L).symm.cons _).trans (List.perm_append_singleton _ _).symm
 ·rw [List.pairwise_append]
  refine ⟨segs_sorted p L, List.pairwise_singleton .., fun a ha b hb => ?_⟩
  rw [List.mem_singleton] at hb
  have := last_max ha
  omega
theorem segs_out {p : List UInt8} {L : List FI} {m : Nat} {r : List Nat} (hs : Srt L) (h : segsL p L = m :: r) : segsL p (outS (fileN p m) L) = r := by
 have hm : m ∈ segsL p L := by rw [h]; simp
 obtain ⟨h1, h2, h3⟩ := (mem_segs_get hs).1 hm
 obtain ⟨y, hy⟩ := Option.isSome_iff_exists.1 h3
 have hsort := segs_sorted p L
 rw [h] at hsort
 refine segs_of_perm ?_ (List.pairwise_cons.1 hsort).2
 have hp := (col_perm (p := p) (out_perm hs hy)).symm.trans ((segs_perm p L).symm)
 rw [h] at hp
 have e : colL p (y :: outS (fileN p m) L) = m :: colL p (outS (fileN p m) L) := by
  unfold colL
  rw [List.map_cons, getF_name hy, seg_file p m h1 h2, List.filter_cons]
  simp; omega
 rw [e] at hp
 exact hp.cons_inv
theorem chg_L (M : RS) (L' : List FI) : (chgS M L').2.L = M.L ∨ (chgS M L').2.L = L' := by
 unfold chgS
 split
 ·exact Or.inl (turn_L M)
 ·exact Or.inr rfl
theorem chg_zero {M : RS} {L' : List FI} (h : (chgS M L').1 = 0) : (chgS M L').2.L = L' ∧ (chgS M L').2.gone = M.gone := by
 unfold chgS at h ⊢
 split
 ·rename_i h0; rw [if_pos h0] at h; cases h
 ·rename_i h0
  refine ⟨rfl, ?_⟩
  unfold turnS
  rw [if_neg h0]
  split <;> rfl
theorem add_names {M : RS} (hM : M.ok) {nm : List UInt8} (h : (getF nm M.L).isSome = true) (t : List UInt8) : (addS nm t M).2.L.map (·.name) = M.L.map (·.name) := by
 unfold addS
 split
 ·rcases chg_L M (insS (addF nm t M.L) M.L) with e | e <;> rw [e]
  exact ins_names hM.srt (by rw [addF_name]; exact h)
 ·rfl
theorem on_names {M : RS} (nm : List UInt8) (k : FI → Int × RS) (hk : ∀ y, getF nm M.L = some y → (k y).2.L.map (·.name) = M.L.map (·.name)) : (onS nm M k).2.L.map (·.name) = M.L.map (·.name) := by
 unfold onS
 split
 ·rfl
 ·cases h : getF nm M.L with
  | none => rfl
  | some y => exact hk y h
theorem flush_names {M : RS} (hM : M.ok) (nm : List UInt8) : (flushS nm M).2.L.map (·.name) = M.L.map (·.name) := on_names nm _ fun y hy => by
 rcases chg_L M (insS { y with safe := y.bytes.length } M.L) with e | e <;> rw [e]
 exact ins_names hM.srt (by show (getF y.name M.L).isSome = true; rw [getF_name hy, hy]; rfl)
theorem cut_names {M : RS} (hM : M.ok) (nm : List UInt8) (n : Int) : (cutS nm n M).2.L.map (·.name) = M.L.map (·.name) := on_names nm _ fun y hy => by
 split
 ·rfl
 ·rcases chg_L M _ with e | e <;> rw [e]
  exact ins_names hM.srt (by show (getF y.name M.L).isSome = true; rw [getF_name hy, hy]; rfl)

def jturn (p : List UInt8) (M : RS) : Int × RS := addS (fileN p (lastN p M.L + 1)) [] M
theorem jturn_segs {p : List UInt8} {M : RS} (hM : M.ok) (h9 : lastN p M.L < 9999999) : ((jturn p M).1 = 0 → segsL p (jturn p M).2.L = segsL p M.L ++ [lastN p M.L + 1] ∧ M.gone = false ∧ (jturn p M).2.gone = false ∧ getF (fileN p (lastN p M.L + 1)) (jturn p M).2.L = some ⟨fileN p (lastN p M.L + 1), [], 0⟩ ∧ (∀ m, m ≠ fileN p (lastN p M.L + 1) → getF m (jturn p M).2.L = getF m M.L)) ∧ ((jturn p M).1 ≠ 0 → (jturn p M).2.L = M.L) := by
 unfold jturn addS
 split
 ·rename_i ha
  have hg := (adm_zero ha).1
  obtain ⟨hnone, hseg⟩ := segs_next (y := addF (fileN p (lastN p M.L + 1)) [] M.L) hM.srt rfl h9 (addF_name _ _ _)
  rw [addF_name] at hnone
  refine ⟨fun h0 => ?_, fun h0 => ?_⟩
  ·obtain ⟨e1, e2⟩ := chg_zero h0
   refine ⟨by rw [e1]; exact hseg, hg, by rw [e2]; exact hg, ?_, fun m hm => ?_⟩
   ·rw [e1, getF_ins _ hM.srt, addF_name, if_pos rfl]
    unfold addF; rw [hnone]
   ·rw [e1, getF_ins _ hM.srt, addF_name, if_neg hm]
  ·unfold chgS at h0 ⊢
   split
   ·exact turn_L M
   ·rename_i ht; rw [if_neg ht] at h0; exact absurd rfl h0
 ·rename_i ha
  exact ⟨fun h0 => absurd h0 ha, fun _ => rfl⟩
theorem last_append (l : List Nat) (n : Nat) : (l ++ [n]).getLast?.getD 0 = n := by rw [List.getLast?_concat]; rfl
theorem jturn_last {p : List UInt8} {M : RS} (hM : M.ok) (h9 : lastN p M.L < 9999999) (h0 : (jturn p M).1 = 0) : lastN p (jturn p M).2.L = lastN p M.L + 1 := by
 show (segsL p (jturn p M).2.L).getLast?.getD 0 = _
 rw [((jturn_segs hM h9).1 h0).1, last_append]
theorem gone_add {M : RS} (h : M.gone = true) (nm t : List UInt8) : addS nm t M = (7, M) := by
 unfold addS admS; rw [h]; rfl

def bytesOf (nm : List UInt8) (M : RS) : List UInt8 := match getF nm M.L with | some y => y.bytes | none => []
def jroom (p : List UInt8) (most : Int) (M : RS) : Int × RS := if bytesOf (fileN p (lastN p M.L)) M ≠ [] ∧ most ≤ ((bytesOf (fileN p (lastN p M.L)) M).length : Int) then jturn p M else (0, M)
def jput (nm t : List UInt8) (M : RS) : Int × RS := if (addS nm t M).1 ≠ 0 then addS nm t M else flushS nm (addS nm t M).2
def jwrite (p : List UInt8) (most : Int) (l : List (List UInt8)) (M : RS) : Int × RS :=
 if (batchS l).2 ≠ 0 then ((batchS l).2, M) else if M.gone = true then (7, M) else
 if (jroom p most M).1 ≠ 0 then jroom p most M else jput (fileN p (lastN p (jroom p most M).2.L)) (frameL (batchS l).1) (jroom p most M).2
def trimL (p : List UInt8) (before : Int) : List Nat → RS → Int × RS
 | [], M => (0, M)
 | [_], M => (0, M)
 | n :: m :: r, M => if (n : Int) < before then (if (dropS (fileN p n) M).1 = 0 then trimL p before (m :: r) (dropS (fileN p n) M).2 else dropS (fileN p n) M) else (0, M)
def jtrim (p : List UInt8) (before : Int) (M : RS) : Int × RS := trimL p before (segsL p M.L) M
def mendS (nm : List UInt8) (k : Int) (M : RS) : Int × RS := if (cutS nm k M).1 ≠ 0 then cutS nm k M else flushS nm (cutS nm k M).2
def readSegs (p : List UInt8) : List Nat → RS → Int × List (List (List UInt8)) × RS
 | [], M => (0, [], M)
 | n :: r, M =>
  if (readL (bytesOf (fileN p n) M)).2.2 = 0 then
   if (readSegs p r M).1 = 0 then (0, (readL (bytesOf (fileN p n) M)).1 ++ (readSegs p r M).2.1, (readSegs p r M).2.2) else ((readSegs p r M).1, [], (readSegs p r M).2.2)
  else if r ≠ [] then ((readL (bytesOf (fileN p n) M)).2.2, [], M)
  else if (mendS (fileN p n) ((readL (bytesOf (fileN p n) M)).2.1 : Nat) M).1 = 0 then (0, (readL (bytesOf (fileN p n) M)).1, (mendS (fileN p n) ((readL (bytesOf (fileN p n) M)).2.1 : Nat) M).2)
  else ((mendS (fileN p n) ((readL (bytesOf (fileN p n) M)).2.1 : Nat) M).1, [], (mendS (fileN p n) ((readL (bytesOf (fileN p n) M)).2.1 : Nat) M).2)
def jopen (p : List UInt8) (M : RS) : Int × List (List (List UInt8)) × RS :=
 if nameJ p = false then (3, [], M) else if M.gone = true then (7, [], M) else
 if segsL p M.L = [] then ((jturn p M).1, [], (jturn p M).2) else readSegs p (segsL p M.L) M

theorem mend_ok {M : RS} (h : M.ok) (nm : List UInt8) (k : Int) : (mendS nm k M).2.ok := by
 unfold mendS
 split
 ·exact cut_ok h _ _
 ·exact flush_ok (cut_ok h _ _) _
theorem mend_names {M : RS} (h : M.ok) (nm : List UInt8) (k : Int) : (mendS nm k M).2.L.map (·.name) = M.L.map (·.name) := by
 unfold mendS
 split
 ·exact cut_names h _ _
 ·exact (flush_names (cut_ok h _ _) _).trans (cut_names h _ _)
theorem read_ok (p : List UInt8) : ∀ (l : List Nat) {M : RS} (h : M.ok), (readSegs p l M).2.2.ok ∧ (readSegs p l M).2.2.L.map (·.name) = M.L.map (·.name)
 | [], M, h => ⟨h, rfl⟩
 | n :: r, M, h => by
  have ih := read_ok p r h
  simp only [readSegs]
  split
  ·split
   ·exact ih
   ·exact ih
  ·split
   ·exact ⟨h, rfl⟩
   ·split
    ·exact ⟨mend_ok h _ _, mend_names h _ _⟩
    ·exact ⟨mend_ok h _ _, mend_names h _ _⟩
theorem jturn_ok {M : RS} (h : M.ok) (p : List UInt8) : (jturn p M).2.ok := add_ok h _ _
theorem jopen_ok (p : List UInt8) {M : RS} (h : M.ok) : (jopen p M).2.2.ok := by
 unfold jopen
 split
 ·exact h
 ·split
  ·exact h
  ·split
   ·exact jturn_ok h p
   ·exact (read_ok p _ h).1
theorem jroom_ok {M : RS} (h : M.ok) (p : List UInt8) (most : Int) : (jroom p most M).2.ok := by
 unfold jroom; split; exact jturn_ok h p; exact h
theorem jput_ok {M : RS} (h : M.ok) (nm t : List UInt8) : (jput nm t M).2.ok := by
 unfold jput; split; exact add_ok h _ _; exact flush_ok (add_ok h _ _) _
theorem jwrite_ok {M : RS} (h : M.ok) (p : List UInt8) (most : Int) (l : List (List UInt8)) : (jwrite p most l M).2.ok := by
 unfold jwrite
 split
 ·exact h
 ·split
  ·exact h
  ·split
   ·exact jroom_ok h p most
   ·exact jput_ok (jroom_ok h p most) _ _
theorem trim_ok (p : List UInt8) (before : Int) : ∀ (l : List Nat) {M : RS} (h : M.ok), (trimL p before l M).2.ok
 | [], M, h => h
 | [_], M, h => h
 | n :: m :: r, M, h => by
  simp only [trimL]
  split
  ·split
   ·exact trim_ok p before (m :: r) (drop_ok h _)
   ·exact drop_ok h _
  ·exact h
end Go.Proofs.YtfbiinnenlgkfaaGreatDoor
namespace Go.Proofs.YtfbiinnenlgkfaaGreatDoor
open Go.RowKit Go.Deep

structure SL where
 p : Option Addr
 len : Nat
 cap : Nat
def SL.val (s : SL) : Value := .slice s.p s.len s.cap
def slEl : El SL := ⟨71, 126, 1, fun s => [s.val]⟩
theorem slOk : ElOk slEl 24 := ⟨fun _ => rfl, fun a u hu => by simp [slEl] at hu; subst hu; rfl, by kernel_rfl, ⟨.slice none 0 0, by kernel_rfl, rfl⟩, by decide⟩
structure SlAt (P : Nat → Prop) (x : World) (s : SL) (l : List (List UInt8)) : Prop where
 len : s.len = l.length
 at_ : StrsAt x s.p l
 blk : l ≠ [] → ∀ a, s.p = some a → P a.block
def IsStr (x : World) (k : Nat) : Prop := ∃ cur fr, x.heap[k]? = some (.cells cur 9 fr)
def Apart (n : Nat) (x : World) (s : SL) (l : List (List UInt8)) : Prop := l ≠ [] → ∀ a, s.p = some a → a.block < n ∨ IsStr x a.block
structure OwnL (n : Nat) (P : Nat → Prop) (B : Nat) (x : World) (v : Value) (L : List (List (List UInt8))) : Prop where
 ex : ∃ H : List SL, OwnG slEl B x v H ∧ H.length = L.length ∧ ∀ (i : Nat) (s : SL) (l : List (List UInt8)), H[i]? = some s → L[i]? = some l → SlAt P x s l ∧ Apart n x s l
theorem StrsAt.keep {x y : World} {p : Option Addr} {l : List (List UInt8)} (h : StrsAt x p l) (hk : l ≠ [] → ∀ a, p = some a → y.heap[a.block]? = x.heap[a.block]?) : StrsAt y p l := by
 intro i hi
 obtain ⟨a, ha, hc⟩ := h i hi
 refine ⟨a, ha, (World.cell?_of_block ?_).trans hc⟩
 rw [add_block]
 exact hk (by rintro rfl; simp at hi) a ha
theorem SlAt.keep {P : Nat → Prop} {x y : World} {s : SL} {l : List (List UInt8)} (h : SlAt P x s l) (hk : ∀ k, P k → y.heap[k]? = x.heap[k]?) : SlAt P y s l :=
 ⟨h.len, h.at_.keep (fun hne a ha => hk _ (h.blk hne a ha)), h.blk⟩
theorem SlAt.bel {P : Nat → Prop} {x y : World} {s : SL} {l : List (List UInt8)} (h : SlAt P x s l) (hb : Bel x y) : SlAt P y s l := ⟨h.len, h.at_.bel hb, h.blk⟩
theorem SlAt.mono {P Q : Nat → Prop} {x : World} {s : SL} {l : List (List UInt8)} (h : SlAt P x s l) (hPQ : ∀ k, P k → Q k) : SlAt Q x s l := ⟨h.len, h.at_, fun hne a ha => hPQ _ (h.blk hne a ha)⟩
theorem strs_lt {x : World} {p : Option Addr} {l : List (List UInt8)} (h : StrsAt x p l) (hne : l ≠ []) : ∀ a, p = some a → a.block < x.heap.size := fun a ha => by
 obtain ⟨a', ha', hc⟩ := h 0 (List.length_pos_iff.2 hne)
 obtain rfl : a = a' := by rw [ha] at ha'; simpa using ha'
 have := block_lt_of_cell hc
 rwa [add_block] at this
theorem Apart.keep {n : Nat} {x y : World} {s : SL} {l : List (List UInt8)} (h : Apart n x s l) (hk : l ≠ [] → ∀ a, s.p = some a → y.heap[a.block]? = x.heap[a.block]?) : Apart n y s l := fun hne a ha =>
 (h hne a ha).imp id (fun ⟨c, f, e⟩ => ⟨c, f, (hk hne a ha).trans e⟩)
theorem Apart.bel {n : Nat} {x y : World} {s : SL} {l : List (List UInt8)} (h : Apart n x s l) (hb : Bel x y) : Apart n y s l := fun hne a ha =>
 (h hne a ha).imp id (fun ⟨c, f, e⟩ => ⟨c, f, (Below.block hb _ (Array.getElem?_eq_some_iff.1 e).1).trans e⟩)
theorem Apart.mono {n m : Nat} {x : World} {s : SL} {l : List (List UInt8)} (h : Apart n x s l) (hn : n ≤ m) : Apart m x s l := fun hne a ha => (h hne a ha).imp (fun h => by omega) id
theorem SlAt.own {B : Nat} {x : World} {v : Value} {l : List (List UInt8)} (h : OwnG strEl B x v l) : ∃ p cap, v = .slice p l.length cap ∧ SlAt (fun k => B ≤ k) x ⟨p, l.length, cap⟩ l ∧ Apart 0 x ⟨p, l.length, cap⟩ l := by
 have h0 := h
 obtain ⟨p, cap, rfl, hat⟩ := ownG_strs h
 refine ⟨p, cap, rfl, ⟨rfl, hat, fun hne a ha => ?_⟩, fun hne a ha => Or.inr ?_⟩
 ·simp only at ha
  subst ha
  exact (h.lt _ rfl).1
 ·simp only at ha
  subst ha
  rcases h0.2 with ⟨hv, _⟩ | ⟨g, cap', cur, hv, _, hg, _⟩
  ·cases hv
  ·simp only [Value.slice.injEq, Option.some.injEq] at hv
   obtain ⟨rfl, -⟩ := hv
   exact ⟨cur, (0, 0), hg⟩
theorem OwnL.nil (n : Nat) (P : Nat → Prop) (B : Nat) (x : World) : OwnL n P B x (.slice none 0 0) [] := ⟨[], OwnG.nil _ _ _, rfl, fun i s l h => by simp at h⟩
theorem OwnL.bel {n : Nat} {P : Nat → Prop} {B : Nat} {x y : World} {v : Value} {L : List (List (List UInt8))} (h : OwnL n P B x v L) (hb : Bel x y) : OwnL n P B y v L := by
 obtain ⟨H, h1, h2, h3⟩ := h.ex
 exact ⟨H, h1.bel hb, h2, fun i s l hs hl => ⟨(h3 i s l hs hl).1.bel hb, (h3 i s l hs hl).2.bel hb⟩⟩
theorem OwnL.low {n : Nat} {P : Nat → Prop} {B B' : Nat} {x : World} {v : Value} {L : List (List (List UInt8))} (h : OwnL n P B x v L) (hB : B' ≤ B) : OwnL n P B' x v L := by
 obtain ⟨H, h1, h2, h3⟩ := h.ex
 exact ⟨H, h1.low hB, h2, h3⟩
theorem OwnL.mono {n m : Nat} {P Q : Nat → Prop} {B : Nat} {x : World} {v : Value} {L : List (List (List UInt8))} (h : OwnL n P B x v L) (hPQ : ∀ k, P k → Q k) (hn : n ≤ m) : OwnL m Q B x v L := by
 obtain ⟨H, h1, h2, h3⟩ := h.ex
 exact ⟨H, h1, h2, fun i s l hs hl => ⟨(h3 i s l hs hl).1.mono hPQ, (h3 i s l hs hl).2.mono hn⟩⟩
theorem OwnL.keep {n : Nat} {P : Nat → Prop} {B : Nat} {x y : World} {v : Value} {L : List (List (List UInt8))} (h : OwnL n P B x v L) (hk : ∀ k, P k → y.heap[k]? = x.heap[k]?) (hv : ∀ k, v.ownBlock = some k → y.heap[k]? = x.heap[k]?) : OwnL n P B y v L := by
 obtain ⟨H, h1, h2, h3⟩ := h.ex
 refine ⟨H, ?_, h2, fun i s l hs hl => ⟨(h3 i s l hs hl).1.keep hk, (h3 i s l hs hl).2.keep (fun hne a ha => hk _ ((h3 i s l hs hl).1.blk hne a ha))⟩⟩
 obtain ⟨q1, q2⟩ := h1
 refine ⟨q1, ?_⟩
 rcases q2 with q2 | ⟨g, cap, cur, rfl, hg, hh, r⟩
 ·exact Or.inl q2
 ·exact Or.inr ⟨g, cap, cur, rfl, hg, (hv g rfl).trans hh, r⟩
theorem OwnL.len {n : Nat} {P : Nat → Prop} {B : Nat} {x : World} {v : Value} {L : List (List (List UInt8))} (h : OwnL n P B x v L) : ∃ p cap, v = .slice p L.length cap := by
 obtain ⟨H, h1, h2, h3⟩ := h.ex
 obtain ⟨p, cap, hv⟩ := ownG_len h1
 exact ⟨p, cap, by rw [hv, h2]⟩
theorem apart_own {n B : Nat} {x : World} {v : Value} {H : List SL} (h : OwnG slEl B x v H) (hn : n ≤ B) {s : SL} {l : List (List UInt8)} (ha : Apart n x s l) (hne : l ≠ []) {a : Addr} (hp : s.p = some a) : some a.block ≠ v.ownBlock := by
 intro e
 rcases ha hne a hp with hlt | ⟨c, f, hs⟩
 ·have := (h.lt a.block e.symm).1; omega
 ·rcases h.2 with ⟨rfl, _⟩ | ⟨g, cap, cur, rfl, _, hg, _⟩
  ·cases e
  ·simp only [Value.ownBlock, Option.some.injEq] at e
   rw [e, hg] at hs
   simp only [Option.some.injEq, Obj.cells.injEq] at hs
   exact absurd hs.2.1 (by decide)
theorem append_where {α : Type} {E : El α} {B b : Nat} {x : World} {v : Value} {L : List α} (hE : ElOk E b) (hown : OwnG E B x v L) (ty : TypeId) (ad : Addr) (c : Nat) (news : List α) (hnews : ∀ j u, (E.all news)[j]? = some u → x.cell? (ad.add j) = some u)
  (hl1 : L.length + news.length ≤ maxLen) (hlim : (L.length + news.length) * b ≤ 140737488355328) {v' : Value} {w' : World}
  (hr : (Builtin.append_ #[E.ST, E.ST] ty #[v, .slice (some ad) news.length c]).run Tryz.prog x = .ok v' w') : v'.ownBlock = v.ownBlock ∨ v'.ownBlock = some x.heap.size := by
 obtain ⟨z, hz, hzc⟩ := hE.info
 obtain ⟨i, hi, hz0, hz1, hz2⟩ := info_parts hz
 have hsmall : L.length + news.length ≤ 9223372036854775807 := by unfold maxLen at hl1; omega
 have hln : (E.all news).length = news.length * i.size := by rw [El.all_len hE, hz1]
 rcases hown.2 with ⟨rfl, h0⟩ | ⟨g, cap, cur, rfl, hbg, hg, hnc, hcm, hcs, htake⟩
 ·by_cases hm : news.length = 0
  ·have hr2 : (Builtin.append_ #[E.ST, E.ST] ty #[.slice none 0 0, .slice (some ad) news.length c]).run Tryz.prog x = .ok (.slice none 0 0) x := by
    rw [hm]
    simp [Builtin.append_, run_underlying hE.und, sizeOf, typeInfo, hi, Builtin.lenOf, Builtin.firstCells, loadCells, loadCellsFrom]
   rw [hr2] at hr
   simp only [Result.ok.injEq] at hr
   exact Or.inl (by rw [← hr.1])
  ·have hr2 := run_append_nil (P := Tryz.prog) x E.ST ty E.T i z hE.und hi hz0 ad news.length c (E.all news) hln hnews (by omega) (by omega) (by rw [hz2]; have : news.length * b ≤ (L.length + news.length) * b := Nat.mul_le_mul_right _ (by omega); omega)
   rw [hr2] at hr
   simp only [Result.ok.injEq] at hr
   exact Or.inr (by rw [← hr.1]; rfl)
 ·by_cases hroom : L.length + news.length ≤ cap
  ·have hfit : L.length * i.size + (E.all news).length ≤ cur.size := by rw [hln, hcs, hz1, ← Nat.add_mul]; exact Nat.mul_le_mul_right _ hroom
   have hr2 := run_append_room (P := Tryz.prog) x E.ST ty E.T i hE.und hi g L.length cap cur hg ad news.length c (E.all news) hln hnews (El.all_one hE _) hroom hfit
   rw [hr2] at hr
   simp only [Result.ok.injEq] at hr
   exact Or.inl (by rw [← hr.1]; rfl)
  ·have holds : ∀ j u, (E.all L)[j]? = some u → x.cell? ((⟨g, 0, none⟩ : Addr).add j) = some u := World.ownsRow.cells hown rfl
   have hr2 := run_append_grow (P := Tryz.prog) x E.ST ty E.T i z hE.und hi hz0 ⟨g, 0, none⟩ L.length cap (E.all L) (by rw [El.all_len hE, hz1]) holds ad news.length c (E.all news) hln hnews (by omega) (by omega) (growslice_fits (by omega) (by rw [hz2]; exact hlim))
   rw [hr2] at hr
   simp only [Result.ok.injEq] at hr
   exact Or.inr (by rw [← hr.1]; rfl)
theorem append_src {α : Type} {E : El α} {B b : Nat} {x : World} {v yv : Value} {L : List α} (hE : ElOk E b) {ops : Array Oper} {rest : List Oper} {o : Oper} {a : Act} {Q : Exit → Act → World → Prop} (hgd : o.guard = none) (s y : Operand)
  (ho : o.op = .call { callee := .builtin .append, args := #[s, y], argTypes := #[E.ST, E.ST] }) (hs : a.eval s = v) (hown : OwnG E B x v L) (news : List α) (hy : a.eval y = yv) (hsrc : SrcAt E x yv news)
  (hl1 : L.length + news.length ≤ maxLen) (hlim : (L.length + news.length) * b ≤ 140737488355328) (hbase : B ≤ x.heap.size)
  (h : ∀ v' w', OwnG E B w' v' (L ++ news) → Below B x w' → (∀ k, k < x.heap.size → some k ≠ v.ownBlock → w'.heap[k]? = x.heap[k]?) → (v'.ownBlock = v.ownBlock ∨ v'.ownBlock = some x.heap.size) → wpList Tryz.prog ops Q rest (a.put o.dst v') w') : wpList Tryz.prog ops Q (o :: rest) a x := by
 refine wpList_plain hgd fun K hK => ?_
 obtain ⟨z, hz, hzc⟩ := hE.info
 obtain ⟨i0, hi, hz0, hz1, hz2⟩ := info_parts hz
 rcases hsrc with ⟨rfl, rfl⟩ | ⟨ad, c, rfl, hc⟩
 ·have hr := run_append_owned_none (P := Tryz.prog) (w := x) B E.ST o.type E.T i0 E.n hE.und hi v L.length (E.all L) hown
  unfold Oper.wp execOp
  simp only [ho, resolve, invoke, builtin, Sem.run_bind, Sem.run_pure, Result.andThen_ok, List.map_toArray, List.map_cons, List.map_nil, hs, hy, hr]
  exact hK _ _ (h v x (by simpa using hown) (Below.refl _ _) (fun _ _ _ => rfl) (Or.inl rfl))
 ·obtain ⟨v', w', hr, h1, h2, h3⟩ := run_append_own (P := Tryz.prog) x B E.ST o.type E.T i0 z E.n b hE.und hi hz0 hz1 hz2 hzc hE.pos v L.length (E.all L) hown ad news.length c (E.all news) (El.all_len hE _) hc (El.all_one hE _) hl1 hlim hbase
  have hw := append_where hE hown o.type ad c news hc hl1 hlim hr
  unfold Oper.wp execOp
  simp only [ho, resolve, invoke, builtin, Sem.run_bind, Sem.run_pure, Result.andThen_ok, List.map_toArray, List.map_cons, List.map_nil, hs, hy, hr]
  refine hK _ _ (h v' w' ?_ ((Below.refl B x).grown h2 hbase fun k hk => (hown.lt k hk).1) (fun k hk hne => h2.block k hk hne) hw)
  unfold OwnG
  rw [List.length_append, El.all_append]
  exact h1
theorem append_keep {α : Type} {E : El α} {B b : Nat} {x : World} {v : Value} {L : List α} (hE : ElOk E b) {ops : Array Oper} {rest : List Oper} {o : Oper} {a : Act} {Q : Exit → Act → World → Prop} (hgd : o.guard = none) (s y : Operand)
  (ho : o.op = .call { callee := .builtin .append, args := #[s, y], argTypes := #[E.ST, E.ST] }) (hs : a.eval s = v) (hown : OwnG E B x v L)
  (ad : Addr) (m c : Nat) (news : List α) (hx : a.eval y = .slice (some ad) m c) (hm : m = news.length) (hnews : ∀ j u, (E.all news)[j]? = some u → x.cell? (ad.add j) = some u)
  (hl1 : L.length + news.length ≤ maxLen) (hlim : (L.length + news.length) * b ≤ 140737488355328) (hbase : B ≤ x.heap.size)
  (h : ∀ v' w', OwnG E B w' v' (L ++ news) → Below B x w' → (∀ k, k < x.heap.size → some k ≠ v.ownBlock → w'.heap[k]? = x.heap[k]?) → wpList Tryz.prog ops Q rest (a.put o.dst v') w') : wpList Tryz.prog ops Q (o :: rest) a x :=
 append_src hE hgd s y ho hs hown news hx (Or.inr ⟨ad, c, by rw [hm], hnews⟩) hl1 hlim hbase fun v' w' h1 h2 h3 _ => h v' w' h1 h2 h3
theorem own_src {α : Type} {E : El α} {B b : Nat} {x : World} {v : Value} {L : List α} (hE : ElOk E b) (h : OwnG E B x v L) : SrcAt E x v L := by
 rcases h.2 with ⟨rfl, h0⟩ | ⟨g, cap, cur, rfl, _⟩
 ·exact Or.inl ⟨rfl, List.length_eq_zero_iff.1 h0⟩
 ·exact Or.inr ⟨⟨g, 0, none⟩, cap, rfl, World.ownsRow.cells h rfl⟩
structure RowL (P : Nat → Prop) (x : World) (p : Option Addr) (L : List (List (List UInt8))) : Prop where
 ex : ∃ H : List SL, H.length = L.length ∧ (∀ (i : Nat) (s : SL), H[i]? = some s → ∃ a, p = some a ∧ P a.block ∧ x.cell? (a.add i) = some s.val) ∧ ∀ (i : Nat) (s : SL) (l : List (List UInt8)), H[i]? = some s → L[i]? = some l → SlAt P x s l
theorem RowL.keep {P : Nat → Prop} {x y : World} {p : Option Addr} {L : List (List (List UInt8))} (h : RowL P x p L) (hk : ∀ k, P k → y.heap[k]? = x.heap[k]?) : RowL P y p L := by
 obtain ⟨H, h1, h2, h3⟩ := h.ex
 refine ⟨H, h1, fun i s hs => ?_, fun i s l hs hl => (h3 i s l hs hl).keep hk⟩
 obtain ⟨a, ha, hP, hc⟩ := h2 i s hs
 exact ⟨a, ha, hP, (World.cell?_of_block (by rw [add_block]; exact hk _ hP)).trans hc⟩
theorem RowL.bel {P : Nat → Prop} {x y : World} {p : Option Addr} {L : List (List (List UInt8))} (h : RowL P x p L) (hb : Bel x y) : RowL P y p L := by
 obtain ⟨H, h1, h2, h3⟩ := h.ex
 refine ⟨H, h1, fun i s hs => ?_, fun i s l hs hl => (h3 i s l hs hl).bel hb⟩
 obtain ⟨a, ha, hP, hc⟩ := h2 i s hs
 exact ⟨a, ha, hP, cell_later hb hc⟩
theorem RowL.mono {P Q : Nat → Prop} {x : World} {p : Option Addr} {L : List (List (List UInt8))} (h : RowL P x p L) (hPQ : ∀ k, P k → Q k) : RowL Q x p L := by
 obtain ⟨H, h1, h2, h3⟩ := h.ex
 refine ⟨H, h1, fun i s hs => ?_, fun i s l hs hl => (h3 i s l hs hl).mono hPQ⟩
 obtain ⟨a, ha, hP, hc⟩ := h2 i s hs
 exact ⟨a, ha, hPQ _ hP, hc⟩
theorem OwnL.row {n : Nat} {P : Nat → Prop} {B : Nat} {x : World} {v : Value} {L : List (List (List UInt8))} (h : OwnL n P B x v L) : ∃ p cap, v = .slice p L.length cap ∧ RowL (fun k => P k ∨ v.ownBlock = some k) x p L := by
 obtain ⟨H, h1, h2, h3⟩ := h.ex
 by_cases hne : H = []
 ·subst hne
  obtain ⟨p, cap, hv⟩ := ownG_len h1
  exact ⟨p, cap, by rw [hv, ← h2], [], h2, fun i s hs => by simp at hs, fun i s l hs => by simp at hs⟩
 ·obtain ⟨g, cap, rfl, hg, _, _, hcs⟩ := ownG_cells slOk h1 hne
  refine ⟨_, cap, by rw [h2], H, h2, fun i s hs => ⟨_, rfl, Or.inr rfl, ?_⟩, fun i s l hs hl => (h3 i s l hs hl).1.mono (fun k hk => Or.inl hk)⟩
  have := hcs i s hs 0 _ rfl
  have e : (⟨g, 0, none⟩ : Addr).add i = ⟨g, i, none⟩ := by cases i <;> simp [Addr.add]
  rw [e]
  simpa [slEl] using this
theorem els_keep {n B : Nat} {P : Nat → Prop} {x y : World} {v : Value} {H H' : List SL} {L : List (List (List UInt8))} (h1 : OwnG slEl B x v H) (hn : n ≤ B)
  (h3 : ∀ (i : Nat) (s : SL) (l : List (List UInt8)), H'[i]? = some s → L[i]? = some l → SlAt P x s l ∧ Apart n x s l) (hk : ∀ k, k < x.heap.size → some k ≠ v.ownBlock → y.heap[k]? = x.heap[k]?) :
  ∀ (i : Nat) (s : SL) (l : List (List UInt8)), H'[i]? = some s → L[i]? = some l → SlAt P y s l ∧ Apart n y s l := fun i s l hs hl => by
 obtain ⟨q1, q2⟩ := h3 i s l hs hl
 have hb : l ≠ [] → ∀ a, s.p = some a → y.heap[a.block]? = x.heap[a.block]? := fun hne a ha => hk _ (strs_lt q1.at_ hne a ha) (apart_own h1 hn q2 hne ha)
 exact ⟨⟨q1.len, q1.at_.keep hb, q1.blk⟩, q2.keep hb⟩
theorem els_app {n : Nat} {P : Nat → Prop} {x : World} {L M : List (List (List UInt8))} {H K : List SL} (h2 : H.length = L.length)
  (h3 : ∀ (i : Nat) (s : SL) (l : List (List UInt8)), H[i]? = some s → L[i]? = some l → SlAt P x s l ∧ Apart n x s l) (h4 : ∀ (i : Nat) (s : SL) (l : List (List UInt8)), K[i]? = some s → M[i]? = some l → SlAt P x s l ∧ Apart n x s l) :
  ∀ (i : Nat) (s : SL) (l : List (List UInt8)), (H ++ K)[i]? = some s → (L ++ M)[i]? = some l → SlAt P x s l ∧ Apart n x s l := fun i s' l' hs hl => by
 rcases Nat.lt_or_ge i H.length with hi | hi
 ·rw [List.getElem?_append_left hi] at hs
  rw [List.getElem?_append_left (by omega)] at hl
  exact h3 i s' l' hs hl
 ·rw [List.getElem?_append_right hi] at hs
  rw [List.getElem?_append_right (by omega), show i - L.length = i - H.length by omega] at hl
  exact h4 _ s' l' hs hl
theorem els_one {n : Nat} {P : Nat → Prop} {x : World} {s : SL} {l : List (List UInt8)} (h : SlAt P x s l ∧ Apart n x s l) : ∀ (i : Nat) (s' : SL) (l' : List (List UInt8)), [s][i]? = some s' → [l][i]? = some l' → SlAt P x s' l' ∧ Apart n x s' l' := fun i s' l' hs hl => by
 cases i with
 | zero => simp at hs hl; subst hs hl; exact h
 | succ i => simp at hs
theorem one_keep {n B : Nat} {P : Nat → Prop} {x y : World} {v : Value} {H : List SL} (h1 : OwnG slEl B x v H) (hn : n ≤ B) {s : SL} {l : List (List UInt8)} (h : SlAt P x s l ∧ Apart n x s l) (hk : ∀ k, k < x.heap.size → some k ≠ v.ownBlock → y.heap[k]? = x.heap[k]?) : SlAt P y s l ∧ Apart n y s l := by
 have hb : l ≠ [] → ∀ a, s.p = some a → y.heap[a.block]? = x.heap[a.block]? := fun hne a ha => hk _ (strs_lt h.1.at_ hne a ha) (apart_own h1 hn h.2 hne ha)
 exact ⟨⟨h.1.len, h.1.at_.keep hb, h.1.blk⟩, h.2.keep hb⟩

def FirstPost (s : List UInt8) (w : World) (e : Ending) (w' : World) : Prop :=
 ∃ v, e = .returned (.tuple #[v, .string ⟨(firstL s).2.1.toArray⟩, .int .i64 (firstL s).2.2]) ∧ OwnG strEl w.heap.size w' v (firstL s).1 ∧ Bel w w'
set_option maxHeartbeats 4000000 in
theorem jfirst_any (s : ByteArray) (w : World) (hs : s.size ≤ 1000000) :
  Calls Tryz.prog 176 #[.string s] w (FirstPost s.data.toList w) := by
 obtain ⟨t, r, e, hU⟩ : ∃ t r e, unframeL s.data.toList = (t, r, e) := ⟨_, _, _, rfl⟩
 have HT := Lib.hid (show unV s.data.toList = .tuple #[.string ⟨t.toArray⟩, .string ⟨r.toArray⟩, .int .i64 e] by rw [unV, hU])
 by_cases he : e = 0
 ·subst he
  have hp := unframe_payload hU
  have htz := str_len t
  have HTL := Lib.hid (str_list t)
  cases hu : unbL t with
  | some l =>
   have HF := Lib.hid (first_ok hU hu)
   have HUS := Lib.hid (show unbS (⟨t.toArray⟩ : ByteArray).data.toList = (l, 0) by rw [HTL.out]; exact unbs_some hu)
   clear hU hu
   go_enter Tryz.func176, Tryz.ntmps176
   go_wp2_with (fail)
   refine (unframe_any s w hs).mono ?_
   rintro e w1 ⟨rfl, hb1⟩
   rw [HT.out]
   have HB1 := Lib.hid hb1; clear hb1
   go_wp2_with (fail)
   refine (unbatch_any ⟨t.toArray⟩ _ (by omega)).mono ?_
   rintro e w2 ⟨v, rfl, hown, hb2⟩
   rw [HUS.out] at hown ⊢
   have HB2 := Lib.hid (HB1.out.trans hb2)
   have HV := Lib.hid (hown.low HB1.out.size)
   clear hown hb2
   go_wp2_with (fail)
   go_ret3
   exact ⟨_, by rw [HF.out]; rfl, by rw [HF.out]; exact HV.out, HB2.out⟩
  | none =>
   have HF := Lib.hid (first_form hU hu)
   have HUS := Lib.hid (show unbS (⟨t.toArray⟩ : ByteArray).data.toList = ([], 8) by rw [HTL.out]; exact unbs_none hu)
   clear hU hu
   go_enter Tryz.func176, Tryz.ntmps176
   go_wp2_with (fail)
   refine (unframe_any s w hs).mono ?_
   rintro e w1 ⟨rfl, hb1⟩
   rw [HT.out]
   have HB1 := Lib.hid hb1; clear hb1
   go_wp2_with (fail)
   refine (unbatch_any ⟨t.toArray⟩ _ (by omega)).mono ?_
   rintro e w2 ⟨v, rfl, hown, hb2⟩
   rw [HUS.out] at hown ⊢
   have HB2 := Lib.hid (HB1.out.trans hb2)
   clear hown hb2
   go_wp2_with (fail)
   go_ret3
   exact ⟨_, by rw [HF.out]; rfl, by rw [HF.out]; exact OwnG.nil _ _ _, HB2.out⟩
 ·have HF := Lib.hid (first_err hU he)
  have he3 := (unframe_err hU he).2.2
  by_cases h10 : e = 10
  ·subst h10
   rw [if_pos rfl] at HF
   clear hU
   go_enter Tryz.func176, Tryz.ntmps176
   go_wp2_with (fail)
   refine (unframe_any s w hs).mono ?_
   rintro e w1 ⟨rfl, hb1⟩
   rw [HT.out]
   have HB1 := Lib.hid hb1; clear hb1
   go_wp2_with (fail)
   go_ret3
   exact ⟨_, by rw [HF.out]; rfl, by rw [HF.out]; exact OwnG.nil _ _ _, HB1.out⟩
  ·rw [if_neg h10] at HF
   clear hU
   go_enter Tryz.func176, Tryz.ntmps176
   go_wp2_with (fail)
   refine (unframe_any s w hs).mono ?_
   rintro e' w1 ⟨rfl, hb1⟩
   rw [HT.out]
   have HB1 := Lib.hid hb1; clear hb1
   have hx1 : (e == 10) = false := by rw [beq_eq_false_iff_ne]; exact h10
   have hx2 : (e == 0) = false := by rw [beq_eq_false_iff_ne]; exact he
   have hx3 : (e != 0) = true := by rw [bne_iff_ne]; exact he
   go_wp2_with (fail)
   go_ret3
   exact ⟨_, by rw [HF.out]; rfl, by rw [HF.out]; exact OwnG.nil _ _ _, HB1.out⟩

def BatPost (s : List UInt8) (w : World) (e : Ending) (w' : World) : Prop :=
 ∃ v, e = .returned (.tuple #[v, .int .i64 ((readL s).2.1 : Nat), .int .i64 (readL s).2.2]) ∧ OwnL 0 (fun k => w.heap.size ≤ k) w.heap.size w' v (readL s).1 ∧ Bel w w'
def BaRel (s : List UInt8) (w : World) (ov rv : Value) (x : World) : Prop :=
 ∃ (acc : List (List (List UInt8))) (r : ByteArray), rv = .string r ∧ r.size ≤ s.length ∧ acc.length + r.size ≤ s.length ∧ OwnL 0 (fun k => w.heap.size ≤ k) w.heap.size x ov acc ∧
  readL s = (acc ++ (readL r.data.toList).1, s.length - r.size + (readL r.data.toList).2.1, (readL r.data.toList).2.2) ∧ Bel w x
set_option maxHeartbeats 4000000 in
theorem batches_any (s : ByteArray) (w : World) (hs : s.size ≤ 1000000) :
  Calls Tryz.prog 152 #[.string s] w (BatPost s.data.toList w) := by
 have hsl : s.data.toList.length = s.size := rfl
 go_enter Tryz.func152, Tryz.ntmps152
 go_wp2_with (fail)
 go_loopw [5, 6] (fun ov rv x => BaRel s.data.toList w ov rv x) (fun _ rv _ => strLen rv)
 case atStart => exact ⟨[], s, rfl, Nat.le_refl _, by simp [hsl], OwnL.nil _ _ _ _, by rw [hsl]; simp, Bel.refl w⟩
 case round =>
  obtain ⟨acc, r, rfl, hrs, hacc, hown, hu, hb⟩ := hrel
  rw [hsl] at hrs hacc
  obtain ⟨pp, cap, hpv⟩ := hown.len
  subst hpv
  have HU := Lib.hid hu; clear hu
  have HV := Lib.hid hown; clear hown
  have HB := Lib.hid hb; clear hb
  by_cases hr0 : r.size = 0
  ·obtain rfl : r = ⟨#[]⟩ := by apply ByteArray.ext; exact Array.eq_empty_of_size_eq_zero hr0
   have hX := HU.out
   have e0 : (⟨#[]⟩ : ByteArray).data.toList = [] := rfl
   rw [e0, read_nil] at hX
   have HX := Lib.hid (show readL s.data.toList = (acc, s.size, 0) by rw [hX]; simp [hsl]; rfl)
   clear hX
   go_wp2_with (fail)
   go_ret3
   exact ⟨_, by rw [HX.out]; rfl, by rw [HX.out]; exact HV.out, HB.out⟩
  ·have hnl := ne_nil r hr0
   have hne : r.toList.isEmpty = false := by rw [ByteArray.toList_eq]; cases h : r.data.toList with | nil => exact absurd h hnl | cons a l => rfl
   obtain ⟨l, rest, e, hF⟩ : ∃ l rest e, firstL r.data.toList = (l, rest, e) := ⟨_, _, _, rfl⟩
   have hrl : r.data.toList.length = r.size := rfl
   have HF := Lib.hid hF
   by_cases he : e = 0
   ·subst he
    obtain ⟨t, -, -, hlt⟩ := first_rest hF
    rw [hrl] at hlt
    have hX := HU.out
    rw [read_next hF] at hX
    have HX := Lib.hid (show readL s.data.toList = (acc ++ [l] ++ (readL rest).1, s.size - rest.length + (readL rest).2.1, (readL rest).2.2) by
     rw [hX, hrl, hsl]; simp only [List.append_assoc, List.singleton_append, Prod.mk.injEq, true_and, and_true]; omega)
    clear hX hnl hF
    go_wp2_with (fail)
    refine (jfirst_any r _ (by omega)).mono ?_
    rintro e w1 ⟨lv, rfl, hlo, hb⟩
    rw [HF.out] at hlo ⊢
    obtain ⟨lp, lc, rfl, hsa⟩ := SlAt.own (hlo.low HB.out.size)
    have HSA := Lib.hid hsa
    replace HB := Lib.hid (HB.out.trans hb)
    replace HV := Lib.hid (HV.out.bel hb); clear hb hlo hsa
    obtain ⟨H, h1, h2, h3⟩ := HV.out.ex
    have HG := Lib.hid h1
    have H3 := Lib.hid h3
    clear h1 h3
    go_wp2_with (at_builtin; refine stop_here ?_)
    refine go_on ?_
    have hal : acc.length ≤ 1000000 := by omega
    refine append_keep (L := H) slOk rfl _ _ rfl rfl (HG.out.alloc _) _ _ _ [⟨lp, l.length, lc⟩] rfl rfl (cellsG_new _ _ _ _ rfl) (by unfold maxLen; simp only [List.length_singleton]; omega) (by simp only [List.length_singleton]; omega) (HB.out.alloc _).size ?_
    intro v3 w3 hown3 hbel3 hkeep
    have HB3 := Lib.hid ((HB.out.alloc _).trans_below hbel3)
    have HE := Lib.hid (els_app h2 (els_keep (HG.out.alloc _) (Nat.zero_le _) (fun i s l hs hl => ⟨(H3.out i s l hs hl).1.bel ((Bel.refl _).alloc _), (H3.out i s l hs hl).2.bel ((Bel.refl _).alloc _)⟩) hkeep)
     (els_one (one_keep (HG.out.alloc _) (Nat.zero_le _) ⟨HSA.out.1.bel ((Bel.refl _).alloc _), HSA.out.2.bel ((Bel.refl _).alloc _)⟩ hkeep)))
    obtain ⟨p3, c3, hv3⟩ := ownG_len hown3
    have HO := Lib.hid (show OwnL 0 (fun k => w.heap.size ≤ k) w.heap.size w3 v3 (acc ++ [l]) from ⟨_, hown3, by simp [h2], HE.out⟩)
    rw [List.length_append, h2, List.length_singleton] at hv3
    subst hv3
    clear hown3 hbel3 hkeep HE
    have HSZ := Lib.hid (str_len rest)
    go_wp2_with (fail)
    go_roundw
    case rel => exact ⟨acc ++ [l], ⟨rest.toArray⟩, rfl, by rw [HSZ.out, hsl]; omega, by rw [HSZ.out, hsl]; simp; omega, HO.out, by rw [HSZ.out, str_list, hsl]; exact HX.out, HB3.out⟩
    case measure => simp only [strLen]; rw [HSZ.out]; omega
   ·obtain ⟨rfl, rfl, he3⟩ := first_fail hF he
    have hX := HU.out
    rw [read_end hnl hF he] at hX
    have HX := Lib.hid (show readL s.data.toList = (acc, s.size - r.size, e) by
     rw [hX, hsl]; simp)
    clear hX hnl hF
    have hx3 : (e != 0) = true := by rw [bne_iff_ne]; exact he
    have hx2 : (e == 0) = false := by rw [beq_eq_false_iff_ne]; exact he
    go_wp2_with (fail)
    refine (jfirst_any r _ (by omega)).mono ?_
    rintro e' w1 ⟨lv, rfl, hlo, hb⟩
    rw [HF.out]
    replace HB := Lib.hid (HB.out.trans hb)
    replace HV := Lib.hid (HV.out.bel hb); clear hb hlo
    have hsub : ((s.size : Int) - (r.size : Int)) = ((s.size - r.size : Nat) : Int) := by omega
    go_wp2_with (fail)
    go_ret3
    exact ⟨_, by rw [HX.out]; rfl, by rw [HX.out]; exact HV.out, HB.out⟩

def frsF (fr : List (List UInt8)) : Nat := (fr.flatMap frameL).length
theorem frsF_cons (t : List UInt8) (fr : List (List UInt8)) : frsF (t :: fr) = (frameL t).length + frsF fr := by unfold frsF; rw [List.flatMap_cons, List.length_append]
theorem scan_sizes : ∀ (n : Nat) (s : List UInt8), s.length ≤ n → (scanL s).2.1 = frsF (scanL s).1 ∧ (scanL s).2.1 ≤ s.length ∧ (scanL s).1.length ≤ s.length ∧ ∀ t ∈ (scanL s).1, t.length ≤ 40000
 | n, s, hn => by
  by_cases hs : s = []
  ·subst hs; rw [scan_nil]; exact ⟨rfl, Nat.le_refl _, Nat.le_refl _, fun t ht => by cases ht⟩
  obtain ⟨t, r, e, hU⟩ : ∃ t r e, unframeL s = (t, r, e) := ⟨_, _, _, rfl⟩
  by_cases he : e = 0
  ·subst he
   have hlt := unframe_rest hU
   have hfr := frame_rest hU
   have hfb := (frame_back hU).2
   have hfl := frame_len t
   cases n with
   | zero => omega
   | succ n =>
    obtain ⟨h1, h2, h3, h4⟩ := scan_sizes n r (by omega)
    rw [scan_next hU]
    simp only [frsF_cons, List.length_cons]
    refine ⟨by omega, by omega, by omega, fun u hu => ?_⟩
    rcases List.mem_cons.1 hu with rfl | hu
    ·exact hfb
    ·exact h4 u hu
  ·rw [scan_end hs hU he]
   exact ⟨rfl, Nat.zero_le _, Nat.zero_le _, fun t ht => by cases ht⟩
def LeftR (fr : List (List UInt8)) (N : Nat) (e : Int) (i : Nat) (acc : List (List (List UInt8))) : Prop :=
 rdOf fr N e = (acc ++ (rdOf (fr.drop i) (N - frsF (fr.take i)) e).1, frsF (fr.take i) + (rdOf (fr.drop i) (N - frsF (fr.take i)) e).2.1, (rdOf (fr.drop i) (N - frsF (fr.take i)) e).2.2)
theorem leftR_start (fr : List (List UInt8)) (N : Nat) (e : Int) : LeftR fr N e 0 [] := by
 unfold LeftR; simp [frsF]
theorem frsF_snoc (fr : List (List UInt8)) (i : Nat) (h : i < fr.length) : frsF (fr.take (i + 1)) = frsF (fr.take i) + (frameL fr[i]).length := by
 unfold frsF
 rw [List.take_add_one, List.getElem?_eq_getElem h, List.flatMap_append, List.length_append]; simp
theorem leftR_next {fr : List (List UInt8)} {N : Nat} {e : Int} {i : Nat} {acc : List (List (List UInt8))} (h : LeftR fr N e i acc) (hi : i < fr.length) {l : List (List UInt8)} (hu : unbL fr[i] = some l) : LeftR fr N e (i + 1) (acc ++ [l]) := by
 unfold LeftR at h ⊢
 rw [h, List.drop_eq_getElem_cons hi, rdOf, hu, frsF_snoc fr i hi]
 simp only [List.append_assoc, List.singleton_append, Nat.sub_sub, Prod.mk.injEq, true_and, and_true]
 omega
theorem leftR_fail {fr : List (List UInt8)} {N : Nat} {e : Int} {i : Nat} {acc : List (List (List UInt8))} (h : LeftR fr N e i acc) (hi : i < fr.length) (hu : unbL fr[i] = none) : rdOf fr N e = (acc, frsF (fr.take i), 8) := by
 unfold LeftR at h
 rw [h, List.drop_eq_getElem_cons hi, rdOf, hu]
 simp
theorem leftR_end {fr : List (List UInt8)} {N : Nat} {e : Int} {acc : List (List (List UInt8))} (h : LeftR fr N e fr.length acc) (hN : N = frsF fr) : rdOf fr N e = (acc, N, if e = 10 then 8 else e) := by
 unfold LeftR at h
 rw [h, List.drop_length, List.take_length, ← hN, rdOf]
 simp
theorem frsF_take (fr : List (List UInt8)) (i : Nat) : frsF (fr.take i) ≤ frsF fr := by
 unfold frsF
 conv => rhs; rw [← List.take_append_drop i fr]
 rw [List.flatMap_append, List.length_append]; omega
def RrRel (w1 : World) (fr : List (List UInt8)) (N : Nat) (e : Int) (ov av iv : Value) (x : World) : Prop :=
 ∃ (k : Nat) (acc : List (List (List UInt8))), iv = .int .i64 k ∧ k ≤ fr.length ∧ acc.length = k ∧ av = .int .i64 (frsF (fr.take k) : Nat) ∧ OwnL 0 (fun j => w1.heap.size ≤ j) w1.heap.size x ov acc ∧ LeftR fr N e k acc ∧ Bel w1 x
set_option maxHeartbeats 4000000 in
theorem rread_any (s : ByteArray) (w : World) (hs : s.size ≤ 1000000) :
  Calls Tryz.prog 102 #[.string s] w (BatPost s.data.toList w) := by
 have hsl : s.data.toList.length = s.size := rfl
 obtain ⟨fr, N, e5, hS⟩ : ∃ fr N e5, scanL s.data.toList = (fr, N, e5) := ⟨_, _, _, rfl⟩
 have hsz := scan_sizes s.data.toList.length s.data.toList (Nat.le_refl _)
 have hrd := read_scan s.data.toList.length s.data.toList (Nat.le_refl _)
 rw [hS] at hsz hrd
 simp only at hsz hrd
 obtain ⟨hN, hNs, hfl, h4⟩ := hsz
 rw [hsl] at hNs hfl
 have HS := Lib.hid hS
 have HRD := Lib.hid hrd
 have H4 := Lib.hid h4
 have HN := Lib.hid hN
 clear hS hrd h4 hN
 go_enter Tryz.func102, Tryz.ntmps102
 go_wp2_with (fail)
 refine (rscan_any s _ hs).mono ?_
 rintro e w1 ⟨v, rfl, hown, hb1⟩
 rw [HS.out] at hown ⊢
 obtain ⟨fp, fc, rfl, hat⟩ := ownG_strs hown
 have HAT := Lib.hid hat
 have HB1 := Lib.hid hb1
 clear hown hat hb1
 go_wp2_with (fail)
 go_loopw [8, 9, 10] (fun ov av iv x => RrRel w1 fr N e5 ov av iv x) (fun _ _ iv _ => fr.length - (intOf iv).toNat)
 case atStart => exact ⟨0, [], rfl, Nat.zero_le _, rfl, by simp [frsF], OwnL.nil _ _ _ _, leftR_start _ _ _, Bel.refl w1⟩
 case round =>
  obtain ⟨k, acc, rfl, hk, hacc, rfl, hown, hleft, hb⟩ := hrel
  obtain ⟨pp, cap, hpv⟩ := hown.len
  rw [hacc] at hpv
  subst hpv
  have HL := Lib.hid hleft; clear hleft
  have HV := Lib.hid hown; clear hown
  have HB := Lib.hid hb; clear hb
  have HAC := Lib.hid hacc
  by_cases hlt : k < fr.length
  ·obtain ⟨a, rfl, hc⟩ := (HAT.out.bel HB.out) k hlt
   have ht4 := H4.out _ (List.getElem_mem hlt)
   have hsn := frsF_snoc fr k hlt
   have htk := frsF_take fr (k + 1)
   rw [← HN.out] at htk
   have HL1 := Lib.hid (fun l (hu : unbL fr[k] = some l) => leftR_next HL.out hlt hu)
   have HL2 := Lib.hid (fun (hu : unbL fr[k] = none) => leftR_fail HL.out hlt hu)
   have HCK := Lib.hid (show ∀ x, Bel w1 x → x.cell? (a.add k) = some (.string ⟨fr[k].toArray⟩) from fun x hx => by
    obtain ⟨a', ha', hc'⟩ := (HAT.out.bel hx) k hlt
    obtain rfl : a = a' := by simpa using ha'
    exact hc')
   obtain ⟨t, ht⟩ : ∃ t, t = fr[k] := ⟨_, rfl⟩
   rw [← ht] at hc ht4 hsn HL1 HL2 HCK
   clear ht
   have htz := str_len t
   have hfz := str_len (frameL t)
   generalize hat0 : frsF (fr.take k) = at0 at *
   cases hu : unbL t with
   | some l =>
    have HUS := Lib.hid (show unbS (⟨t.toArray⟩ : ByteArray).data.toList = (l, 0) by rw [str_list]; exact unbs_some hu)
    have HL3 := Lib.hid (HL1.out l hu)
    clear hu HL1 HL2
    go_wp2_with (fail)
    refine (runbatch_any ⟨t.toArray⟩ _ (by omega)).mono ?_
    rintro e w2 ⟨lv, rfl, hlo, hb⟩
    rw [HUS.out] at hlo ⊢
    obtain ⟨lp, lc, rfl, hsa⟩ := SlAt.own (hlo.low HB.out.size)
    have HSA := Lib.hid hsa
    replace HB := Lib.hid (HB.out.trans hb)
    replace HV := Lib.hid (HV.out.bel hb)
    have hc2 := cell_later hb hc
    clear hb hlo hsa hc
    obtain ⟨H, h1, h2, h3⟩ := HV.out.ex
    have HG := Lib.hid h1
    have H3 := Lib.hid h3
    clear h1 h3
    go_wp2_with (at_builtin; refine stop_here ?_)
    refine go_on ?_
    refine append_keep (L := H) slOk rfl _ _ rfl rfl (HG.out.alloc _) _ _ _ [⟨lp, l.length, lc⟩] rfl rfl (cellsG_new _ _ _ _ rfl) (by unfold maxLen; simp only [List.length_singleton]; omega) (by simp only [List.length_singleton]; omega) (HB.out.alloc _).size ?_
    intro v3 w3 hown3 hbel3 hkeep
    have HB3 := Lib.hid ((HB.out.alloc _).trans_below hbel3)
    have HE := Lib.hid (els_app h2 (els_keep (HG.out.alloc _) (Nat.zero_le _) (fun i s l hs hl => ⟨(H3.out i s l hs hl).1.bel ((Bel.refl _).alloc _), (H3.out i s l hs hl).2.bel ((Bel.refl _).alloc _)⟩) hkeep)
     (els_one (one_keep (HG.out.alloc _) (Nat.zero_le _) ⟨HSA.out.1.bel ((Bel.refl _).alloc _), HSA.out.2.bel ((Bel.refl _).alloc _)⟩ hkeep)))
    obtain ⟨p3, c3, hv3⟩ := ownG_len hown3
    have HO := Lib.hid (show OwnL 0 (fun k => w1.heap.size ≤ k) w1.heap.size w3 v3 (acc ++ [l]) from ⟨_, hown3, by simp [h2], HE.out⟩)
    rw [List.length_append, h2, HAC.out, List.length_singleton] at hv3
    subst hv3
    clear hown3 hbel3 hkeep HE
    have hc3 := HCK.out _ HB3.out
    clear hc2
    go_wp2_with (fail)
    refine (rframe_ok ⟨t.toArray⟩ _ (by omega)).mono ?_
    rintro e w5 ⟨rfl, hb5⟩
    unfold frameV
    rw [str_list]
    have HB5 := Lib.hid (HB3.out.trans hb5)
    have HO5 := Lib.hid (HO.out.bel hb5)
    clear hb5 hc3
    go_wp2_with (fail)
    go_roundw
    case rel => exact ⟨k + 1, acc ++ [l], by go_num, by omega, by simp [HAC.out], by rw [hsn]; go_num, HO5.out, HL3.out, HB5.out⟩
    case measure => simp [intOf]; omega
   | none =>
    have HUS := Lib.hid (show unbS (⟨t.toArray⟩ : ByteArray).data.toList = ([], 8) by rw [str_list]; exact unbs_none hu)
    have HL3 := Lib.hid (HL2.out hu)
    clear hu HL1 HL2
    go_wp2_with (fail)
    refine (runbatch_any ⟨t.toArray⟩ _ (by omega)).mono ?_
    rintro e w2 ⟨lv, rfl, hlo, hb⟩
    rw [HUS.out]
    replace HB := Lib.hid (HB.out.trans hb)
    replace HV := Lib.hid (HV.out.bel hb)
    clear hb hlo
    go_wp2_with (fail)
    go_ret3
    exact ⟨_, by rw [HRD.out, HL3.out]; rfl, by rw [HRD.out, HL3.out]; exact (HV.out.low HB1.out.size).mono (fun k hk => Nat.le_trans HB1.out.size hk) (Nat.le_refl _), HB1.out.trans HB.out⟩
  ·obtain rfl : k = fr.length := by omega
   have HE := Lib.hid (leftR_end HL.out HN.out)
   by_cases h10 : e5 = 10
   ·subst h10
    rw [if_pos rfl] at HE
    go_wp2_with (fail)
    go_ret3
    exact ⟨_, by rw [HRD.out, HE.out]; rfl, by rw [HRD.out, HE.out]; exact (HV.out.low HB1.out.size).mono (fun k hk => Nat.le_trans HB1.out.size hk) (Nat.le_refl _), HB1.out.trans HB.out⟩
   ·rw [if_neg h10] at HE
    have hx1 : (e5 == 10) = false := by rw [beq_eq_false_iff_ne]; exact h10
    go_wp2_with (fail)
    go_ret3
    exact ⟨_, by rw [HRD.out, HE.out]; rfl, by rw [HRD.out, HE.out]; exact (HV.out.low HB1.out.size).mono (fun k hk => Nat.le_trans HB1.out.size hk) (Nat.le_refl _), HB1.out.trans HB.out⟩

def AtoiPost (l : List UInt8) (w : World) (e : Ending) (w' : World) : Prop :=
 (∃ v, e = .returned (.tuple #[.int .i64 v, .nilIface]) ∧ Lib.atoiAll l = .ok v ∧ Bel w w') ∨ (∃ v T p, e = .returned (.tuple #[.int .i64 v, .iface T p]) ∧ (∀ v', Lib.atoiAll l ≠ .ok v') ∧ Bel w w')
theorem atoi_any (s : ByteArray) (w : World) (hs : s.size ≤ 1000000) (hstd : Std w) :
  Calls Tryz.prog 150 #[.string s] w (AtoiPost s.data.toList w) := by
 obtain ⟨_, ⟨t2, p2, h2⟩, ⟨t3, p3, h3⟩, _⟩ := hstd
 rcases h : Lib.atoiAll s.data.toList with v | _ | _
 ·refine (Any.strconv_Atoi_ok Tryz.laysC172 s (by omega) v h w).mono ?_
  rintro e w' ⟨rfl, hw⟩
  refine Or.inl ⟨v, rfl, h, ?_⟩
  rcases hw with rfl | ⟨t, rfl⟩
  ·exact Bel.refl _
  ·exact Lib.bytesWorld_below _ _ _
 ·refine (Any.strconv_Atoi_syntax Tryz.laysC172 s (by omega) h _ w h2 (Or.inr ⟨t2, p2, rfl⟩)).mono ?_
  rintro e w' ⟨N, rfl, -, -, hb⟩
  exact Or.inr ⟨_, _, _, rfl, fun v' hv => (by rw [h] at hv; cases hv), hb⟩
 ·refine (Any.strconv_Atoi_range Tryz.laysC172 s (by omega) h _ w h3 (Or.inr ⟨t3, p3, rfl⟩)).mono ?_
  rintro e w' ⟨N, rfl, -, -, hb⟩
  exact Or.inr ⟨_, _, _, rfl, fun v' hv => (by rw [h] at hv; cases hv), hb⟩
theorem prefix_short (s t : ByteArray) (w : World) (hs : s.size ≤ 1000000) (ht2 : t.size ≤ 1000000) (ht : s.size < t.size) :
  Calls Tryz.prog 183 #[.string s, .string t] w fun e w' => e = .returned (.bool false) ∧ Bel w w' := by
 go_enter Tryz.func183, Tryz.ntmps183
 go_wp2_with (fail)
 go_ret
 exact ⟨rfl, Bel.refl w⟩
theorem has_any (s t : ByteArray) (b : Bool) (w : World) (hs : s.size ≤ 1000000) (ht2 : t.size ≤ 1000000) (h : (s.data.toList.take t.size == t.data.toList) = b) :
  Calls Tryz.prog 183 #[.string s, .string t] w fun e w' => e = .returned (.bool b) ∧ Bel w w' := by
 by_cases ht : t.size ≤ s.size
 ·have e : ((s.extract 0 t.size).toList == t.toList) = b := by
   rw [← h, ByteArray.toList_eq, ByteArray.toList_eq, ext_data, List.drop_zero]
  rw [← e]
  exact prefix0_any s t w hs ht
 ·have e : b = false := by
   rw [← h, beq_eq_false_iff_ne]
   intro e
   have h1 := congrArg List.length e
   rw [List.length_take, show s.data.toList.length = s.size from rfl, show t.data.toList.length = t.size from rfl] at h1
   omega
  subst e
  exact prefix_short s t w hs ht2 (by omega)
theorem cut0_yes (s t : ByteArray) (w : World) (hs : s.size ≤ 1000000) (ht2 : t.size ≤ s.size) (h : (s.data.toList.take t.size == t.data.toList) = true) :
  Calls Tryz.prog 164 #[.string s, .string t] w fun e w' => e = .returned (.tuple #[.string (s.extract t.size s.size), .bool true]) ∧ Bel w w' := by
 have H := Lib.hid h; clear h
 go_enter Tryz.func164, Tryz.ntmps164
 go_wp2_with (fail)
 refine (has_any s t true w hs (by omega) H.out).mono ?_
 rintro e w1 ⟨rfl, hb⟩
 have HB := Lib.hid hb; clear hb
 go_wp2_with (fail)
 go_ret2
 exact ⟨rfl, HB.out⟩
theorem cut0_no (s t : ByteArray) (w : World) (hs : s.size ≤ 1000000) (ht2 : t.size ≤ 1000000) (h : (s.data.toList.take t.size == t.data.toList) = false) :
  Calls Tryz.prog 164 #[.string s, .string t] w fun e w' => e = .returned (.tuple #[.string s, .bool false]) ∧ Bel w w' := by
 have H := Lib.hid h; clear h
 go_enter Tryz.func164, Tryz.ntmps164
 go_wp2_with (fail)
 refine (has_any s t false w hs (by omega) H.out).mono ?_
 rintro e w1 ⟨rfl, hb⟩
 have HB := Lib.hid hb; clear hb
 go_wp2_with (fail)
 go_ret2
 exact ⟨rfl, HB.out⟩
theorem cut_yes (s t : ByteArray) (w : World) (hs : s.size ≤ 1000000) (ht2 : t.size ≤ s.size) (h : (s.data.toList.take t.size == t.data.toList) = true) :
  Calls Tryz.prog 149 #[.string s, .string t] w fun e w' => e = .returned (.tuple #[.string (s.extract t.size s.size), .bool true]) ∧ Bel w w' := by
 have H := Lib.hid h; clear h
 go_enter Tryz.func149, Tryz.ntmps149
 go_wp2_with (fail)
 refine (cut0_yes s t w hs ht2 H.out).mono ?_
 rintro e w1 ⟨rfl, hb⟩
 have HB := Lib.hid hb; clear hb
 go_wp2_with (fail)
 go_ret2
 exact ⟨rfl, HB.out⟩
theorem cut_no (s t : ByteArray) (w : World) (hs : s.size ≤ 1000000) (ht2 : t.size ≤ 1000000) (h : (s.data.toList.take t.size == t.data.toList) = false) :
  Calls Tryz.prog 149 #[.string s, .string t] w fun e w' => e = .returned (.tuple #[.string s, .bool false]) ∧ Bel w w' := by
 have H := Lib.hid h; clear h
 go_enter Tryz.func149, Tryz.ntmps149
 go_wp2_with (fail)
 refine (cut0_no s t w hs ht2 H.out).mono ?_
 rintro e w1 ⟨rfl, hb⟩
 have HB := Lib.hid hb; clear hb
 go_wp2_with (fail)
 go_ret2
 exact ⟨rfl, HB.out⟩
def numV (p nm : List UInt8) : Value := .tuple #[.int .i64 (segN p nm : Nat), .bool (decide (segN p nm ≠ 0))]
theorem numV_none {p nm : List UInt8} (h : segN p nm = 0) : numV p nm = .tuple #[.int .i64 0, .bool false] := by unfold numV; rw [h]; rfl
theorem numV_some {p nm : List UInt8} {n : Nat} (h : segN p nm = n) (hn : n ≠ 0) : numV p nm = .tuple #[.int .i64 n, .bool true] := by unfold numV; rw [h]; simp [hn]
theorem file_pre {p nm d : List UInt8} (h : nm = p ++ 46 :: d) (n : Nat) : nm = fileN p n ↔ d = Lib.itoa (n : Int) := by
 rw [h, fileN]
 simp
theorem file_of_pre (p : List UInt8) (n : Nat) : (fileN p n).take (p.length + 1) = p ++ [46] := by
 rw [fileN, show p ++ 46 :: Lib.itoa (n : Int) = (p ++ [46]) ++ Lib.itoa (n : Int) by simp]
 rw [List.take_left' (by simp)]
theorem atoi_file {d : List UInt8} {n : Nat} (h : d = Lib.itoa (n : Int)) (hn : n ≤ 9999999) : Lib.atoiAll d = .ok (n : Int) := by
 rw [h]; exact atoi_itoa n (by omega) (by omega)

set_option maxHeartbeats 4000000 in
theorem jnumber_any (w : World) (b f : Nat) (p : ByteArray) (most : Int) (s : ByteArray) (h : JAt w b f p most) (hp : p.size ≤ 100) (hs : s.size ≤ 1000000) (hstd : Std w) :
  Calls Tryz.prog 121 #[.pointer (some ⟨b, 0, none⟩), .string s] w fun e w' => e = .returned (numV p.data.toList s.data.toList) ∧ Bel w w' := by
 have HS := Lib.hid hstd; clear hstd
 have c1 := h.name
 clear h
 have n1 : ¬ 9223372036854775807 < p.size + 1 := by omega
 have hpt : (p ++ ⟨#[46]⟩ : ByteArray).data.toList = p.data.toList ++ [46] := by simp
 have hpz : (p ++ ⟨#[46]⟩ : ByteArray).size = p.size + 1 := by rw [ByteArray.size_append]; rfl
 have hpl : p.data.toList.length = p.size := rfl
 have hsl : s.data.toList.length = s.size := rfl
 obtain ⟨t, ht⟩ : ∃ t, t = (p ++ ⟨#[46]⟩ : ByteArray) := ⟨_, rfl⟩
 have HT := Lib.hid ht
 rw [← ht] at hpt hpz
 cases hpre : (s.data.toList.take t.size == t.data.toList) with
 | false =>
  have HN := Lib.hid (numV_none (p := p.data.toList) (nm := s.data.toList) (seg_none fun n h1 h2 e => by
   rw [beq_eq_false_iff_ne] at hpre
   apply hpre
   rw [e, hpz, ← hpl, file_of_pre, hpt]))
  have HP := Lib.hid hpre
  clear hpre hpt ht hpl hsl
  go_enter Tryz.func121, Tryz.ntmps121
  go_wp2_with (fail)
  rw [← HT.out]
  refine (cut_no s t _ hs (by omega) HP.out).mono ?_
  rintro e w1 ⟨rfl, hb⟩
  have HB := Lib.hid hb; clear hb
  go_wp2_with (fail)
  go_ret2
  exact ⟨by rw [HN.out]; rfl, HB.out⟩
 | true =>
  have hpe : s.data.toList.take t.size = p.data.toList ++ [46] := by rw [← hpt]; simpa using hpre
  obtain ⟨d, hd⟩ : ∃ d : ByteArray, d = s.extract t.size s.size := ⟨_, rfl⟩
  have hts : t.size ≤ s.size := by
   have h1 := congrArg List.length hpe
   rw [List.length_take, List.length_append, hpl, hsl] at h1
   simp at h1
   omega
  have hdl : d.data.toList = s.data.toList.drop t.size := by
   rw [hd, ByteArray.data_extract, Array.toList_extract, List.extract_eq_take_drop]
   exact List.take_of_length_le (by rw [List.length_drop, hsl]; omega)
  have hsd : s.data.toList = p.data.toList ++ 46 :: d.data.toList := by
   rw [hdl, show p.data.toList ++ 46 :: s.data.toList.drop t.size = (p.data.toList ++ [46]) ++ s.data.toList.drop t.size by simp, ← hpe, List.take_append_drop]
  have hdz : d.size ≤ 1000000 := by rw [hd, ByteArray.size_extract]; omega
  have HF := Lib.hid (fun n => file_pre hsd n)
  have HD := Lib.hid hd
  have HP := Lib.hid hpre
  clear hpre hpe hdl hd hpt ht hpl hsl hsd
  go_enter Tryz.func121, Tryz.ntmps121
  go_wp2_with (fail)
  rw [← HT.out]
  refine (cut_yes s t _ hs hts HP.out).mono ?_
  rintro e w1 ⟨rfl, hb⟩
  rw [← HD.out]
  have HB := Lib.hid hb; clear hb
  go_wp2_with (fail)
  refine (atoi_any d _ hdz (HS.out.bel HB.out)).mono ?_
  rintro e w2 (⟨v, rfl, hv, hb⟩ | ⟨v, T, q, rfl, hv, hb⟩)
  ·have hbd := Lib.atoiAll_bounds hv
   have HB2 := Lib.hid (HB.out.trans hb)
   have HV := Lib.hid hv
   clear hb hv
   by_cases hv1 : v < 1
   ·have HN := Lib.hid (numV_none (p := p.data.toList) (nm := s.data.toList) (seg_none fun n h1 h2 e => by
     have := atoi_file ((HF.out n).1 e) h2
     rw [HV.out] at this
     injection this with this
     omega))
    go_wp2_with (fail)
    go_ret2
    exact ⟨by rw [HN.out]; rfl, HB2.out⟩
   ·by_cases hv2 : 9999999 < v
    ·have HN := Lib.hid (numV_none (p := p.data.toList) (nm := s.data.toList) (seg_none fun n h1 h2 e => by
      have := atoi_file ((HF.out n).1 e) h2
      rw [HV.out] at this
      injection this with this
      omega))
     go_wp2_with (fail)
     go_ret2
     exact ⟨by rw [HN.out]; rfl, HB2.out⟩
    ·obtain ⟨n, rfl⟩ : ∃ n : Nat, v = n := ⟨v.toNat, by omega⟩
     cases hc : ((Lib.itoa (n : Int)) == d.toList) with
     | true =>
      have hdn : d.data.toList = Lib.itoa (n : Int) := by rw [beq_iff_eq, ByteArray.toList_eq] at hc; exact hc.symm
      have HN := Lib.hid (numV_some (p := p.data.toList) (nm := s.data.toList) (n := n) (by rw [(HF.out n).2 hdn]; exact seg_file _ n (by omega) (by omega)) (by omega))
      clear hdn
      go_wp2_with (first
       | (go_at_call 116; refine (itoa_any n (by omega) (by omega) _ (HS.out.bel HB2.out)).mono ?_; rintro e w3 ⟨rfl, hb⟩; have HB3 := Lib.hid (HB2.out.trans hb); clear hb))
      go_ret2
      exact ⟨by rw [HN.out]; rfl, HB3.out⟩
     | false =>
      have HN := Lib.hid (numV_none (p := p.data.toList) (nm := s.data.toList) (seg_none fun m h1 h2 e => by
       have h3 := (HF.out m).1 e
       have := atoi_file h3 h2
       rw [HV.out] at this
       injection this with this
       have : n = m := by omega
       subst this
       rw [beq_eq_false_iff_ne, ByteArray.toList_eq] at hc
       exact hc h3.symm))
      go_wp2_with (first
       | (go_at_call 116; refine (itoa_any n (by omega) (by omega) _ (HS.out.bel HB2.out)).mono ?_; rintro e w3 ⟨rfl, hb⟩; have HB3 := Lib.hid (HB2.out.trans hb); clear hb))
      go_ret2
      exact ⟨by rw [HN.out]; rfl, HB3.out⟩
  ·have HN := Lib.hid (numV_none (p := p.data.toList) (nm := s.data.toList) (seg_none fun n h1 h2 e => hv _ (atoi_file ((HF.out n).1 e) h2)))
   have HB2 := Lib.hid (HB.out.trans hb)
   clear hb hv
   go_wp2_with (fail)
   go_ret2
   exact ⟨by rw [HN.out]; rfl, HB2.out⟩

theorem dval_app_le (l m : List UInt8) : dvalN l ≤ dvalN (l ++ m) := by
 refine rev_ind (P := fun m => dvalN l ≤ dvalN (l ++ m)) (by simp) (fun m x ih => ?_) m
 rw [← List.append_assoc, dval_snoc]; omega
theorem dval_take_le (l : List UInt8) (k : Nat) : dvalN (l.take k) ≤ dvalN l := by
 conv => rhs; rw [← List.take_append_drop k l]
 exact dval_app_le _ _
theorem dval_step (l : List UInt8) (k : Nat) (h : k < l.length) : dvalN (l.take (k + 1)) = 10 * dvalN (l.take k) + (l[k].toNat - 48) := by
 rw [List.take_add_one, List.getElem?_eq_getElem h]
 exact dval_snoc _ _
theorem seg_dval {p nm : List UInt8} {m : Nat} (h : segN p nm = m) (hm : m ≠ 0) : dvalN (nm.drop (p.length + 1)) = m ∧ nm = fileN p m ∧ m ≤ 9999999 ∧ ∀ c ∈ nm.drop (p.length + 1), 48 ≤ c.toNat ∧ c.toNat ≤ 57 := by
 obtain ⟨h1, h2, h3⟩ := seg_pos (p := p) (nm := nm) (by omega)
 rw [h] at h1 h3
 refine ⟨by rw [h1, file_drop, dval_digits], h1, h3, ?_⟩
 rw [h1, file_drop]
 exact digits_all m
def RnRel (p s : List UInt8) (w : World) (nv iv : Value) (x : World) : Prop :=
 ∃ (q m : Nat), iv = .int .i64 q ∧ nv = .int .i64 m ∧ p.length + 1 ≤ q ∧ (q ≤ s.length ∨ q = p.length + 1) ∧ m = dvalN ((s.drop (p.length + 1)).take (q - (p.length + 1))) ∧ m ≤ 100000000 ∧ Bel w x

set_option maxHeartbeats 4000000 in
theorem rnumber_any (w : World) (b f : Nat) (p : ByteArray) (most : Int) (s : ByteArray) (h : JAt w b f p most) (hp : p.size ≤ 100) (hs : s.size ≤ 1000000) :
  Calls Tryz.prog 126 #[.pointer (some ⟨b, 0, none⟩), .string s] w fun e w' => e = .returned (.int .i64 (segN p.data.toList s.data.toList : Nat)) ∧ Bel w w' := by
 have HJ := Lib.hid h
 have c1 := h.name
 clear h
 have hpl : p.data.toList.length = p.size := rfl
 have hsl : s.data.toList.length = s.size := rfl
 obtain ⟨g, hg⟩ : ∃ g, g = segN p.data.toList s.data.toList := ⟨_, rfl⟩
 have HG := Lib.hid hg.symm
 rw [← hg]
 clear hg
 go_enter Tryz.func126, Tryz.ntmps126
 go_wp2_with (fail)
 go_loopw [6, 7] (fun nv iv x => RnRel p.data.toList s.data.toList w nv iv x) (fun _ iv _ => s.size - (intOf iv).toNat)
 case atStart => exact ⟨p.size + 1, 0, by go_num, rfl, by rw [hpl]; omega, Or.inr (by rw [hpl]), by rw [hpl]; simp [dvalN], by omega, Bel.refl w⟩
 case round =>
  obtain ⟨q, m, rfl, rfl, hq, hq2, hm, hmx, hb⟩ := hrel
  rw [hpl] at hq hq2
  rw [hsl] at hq2
  have HM := Lib.hid hm; clear hm
  have HB := Lib.hid hb; clear hb
  have END : Hid (∀ (h : ¬ (q < s.size ∧ m ≤ 9999999)), g ≠ 0 → m ≤ 9999999 ∧ g = m) := Lib.hid fun h hg0 => by
   obtain ⟨h1, h2, h3, h4⟩ := seg_dval HG.out hg0
   have hle := dval_take_le (s.data.toList.drop (p.data.toList.length + 1)) (q - (p.data.toList.length + 1))
   rw [← HM.out, h1] at hle
   have hqs : s.size ≤ q := by
    rcases Nat.lt_or_ge q s.size with h5 | h5
    ·exact absurd ⟨h5, by omega⟩ h
    ·exact h5
   refine ⟨by omega, ?_⟩
   rw [HM.out, List.take_of_length_le (by rw [List.length_drop, hsl, hpl]; omega), h1]
  by_cases hgo : q < s.size ∧ m ≤ 9999999
  ·obtain ⟨hlt, hm9⟩ := hgo
   have hj : q - (p.data.toList.length + 1) < (s.data.toList.drop (p.data.toList.length + 1)).length := by rw [List.length_drop, hsl, hpl]; omega
   have hst := dval_step (s.data.toList.drop (p.data.toList.length + 1)) (q - (p.data.toList.length + 1)) hj
   have hget : (s.data.toList.drop (p.data.toList.length + 1))[q - (p.data.toList.length + 1)] = s[q] := by
    rw [List.getElem_drop]
    show s.data.toList[_] = s.data[q]
    rw [Array.getElem_toList]
    congr 1
    rw [hpl]; omega
   rw [hget, ← HM.out] at hst
   have HST := Lib.hid hst
   have BAD : Hid (¬ (48 ≤ s[q].toNat ∧ s[q].toNat ≤ 57) → g = 0) := Lib.hid fun h => by
    rcases Nat.eq_zero_or_pos g with h0 | h0
    ·exact h0
    ·obtain ⟨h1, h2, h3, h4⟩ := seg_dval HG.out (by omega)
     have := h4 s[q] (by rw [← hget]; exact List.getElem_mem hj)
     exact absurd this h
   have hc := s[q].toNat_lt
   clear hst hget hj
   by_cases h1 : (s[q].toNat : Int) < 48
   ·have HZ := Lib.hid (BAD.out (by omega))
    go_wp2_with (fail)
    go_ret
    exact ⟨by rw [HZ.out]; rfl, HB.out⟩
   ·by_cases h2 : (57 : Int) < (s[q].toNat : Int)
    ·have HZ := Lib.hid (BAD.out (by omega))
     go_wp2_with (fail)
     go_ret
     exact ⟨by rw [HZ.out]; rfl, HB.out⟩
    ·go_wp2_with (fail)
     go_roundw
     case rel =>
      refine ⟨q + 1, 10 * m + (s[q].toNat - 48), by go_num, ?_, by rw [hpl]; omega, Or.inl (by rw [hsl]; omega), ?_, by omega, HB.out⟩
      ·refine congrArg _ ?_
       omega
      ·rw [← HST.out]
       congr 2
       rw [hpl]; omega
     case measure => simp [intOf]; omega
  ·have EN := Lib.hid (END.out hgo)
   by_cases hm1 : (m : Int) < 1
   ·have HZ := Lib.hid (show g = 0 by
     rcases Nat.eq_zero_or_pos g with h0 | h0
     ·exact h0
     ·have := EN.out (by omega); omega)
    go_wp2_with (fail)
    all_goals go_ret
    all_goals exact ⟨by rw [HZ.out]; rfl, HB.out⟩
   ·by_cases hm9 : (9999999 : Int) < (m : Int)
    ·have HZ := Lib.hid (show g = 0 by
      rcases Nat.eq_zero_or_pos g with h0 | h0
      ·exact h0
      ·have := EN.out (by omega); omega)
     go_wp2_with (fail)
     all_goals go_ret
     all_goals exact ⟨by rw [HZ.out]; rfl, HB.out⟩
    ·have hlt : ¬ q < s.size := fun h => hgo ⟨h, by omega⟩
     have hfz := str_list (fileN p.data.toList m)
     cases hc : (s.toList == fileN p.data.toList m) with
     | true =>
      have hsf : s.data.toList = fileN p.data.toList m := by rw [beq_iff_eq, ByteArray.toList_eq] at hc; exact hc
      have HZ := Lib.hid (show g = m by rw [← HG.out, hsf]; exact seg_file _ m (by omega) (by omega))
      clear hsf
      go_wp2_with (first
       | (go_at_call 100; refine (rfile_any _ b f p most m (HJ.out.bel HB.out) hp (by omega)).mono ?_; rintro e w3 ⟨rfl, hb⟩; have HB3 := Lib.hid (HB.out.trans hb); clear hb))
      all_goals go_ret
      all_goals exact ⟨by rw [HZ.out]; rfl, HB3.out⟩
     | false =>
      have HZ := Lib.hid (show g = 0 by
       rcases Nat.eq_zero_or_pos g with h0 | h0
       ·exact h0
       ·have h1 := EN.out (by omega)
        obtain ⟨_, h2, _, _⟩ := seg_dval HG.out (by omega)
        rw [beq_eq_false_iff_ne, ByteArray.toList_eq] at hc
        rw [h1.2] at h2
        exact absurd h2 hc)
      go_wp2_with (first
       | (go_at_call 100; refine (rfile_any _ b f p most m (HJ.out.bel HB.out) hp (by omega)).mono ?_; rintro e w3 ⟨rfl, hb⟩; have HB3 := Lib.hid (HB.out.trans hb); clear hb))
      all_goals go_ret
      all_goals exact ⟨by rw [HZ.out]; rfl, HB3.out⟩
end Go.Proofs.YtfbiinnenlgkfaaGreatDoor
namespace Go.Proofs.YtfbiinnenlgkfaaGreatDoor
open Go.RowKit Go.Deep Go.Maps

def Qb (w x : World) (F : List Nat) (k : Nat) : Prop := w.heap.size ≤ k ∧ k < x.heap.size ∧ k ∉ F
structure OwnQ (w x : World) (F : List Nat) (v : Value) (L : List (List (List UInt8))) : Prop where
 own : OwnL 0 (Qb w x F) w.heap.size x v L
 blk : ∀ k, v.ownBlock = some k → Qb w x F k
theorem OwnQ.nil (w x : World) (F : List Nat) : OwnQ w x F (.slice none 0 0) [] := ⟨OwnL.nil _ _ _ _, fun k hk => by cases hk⟩
theorem Qb.bel {w x y : World} {F : List Nat} {k : Nat} (h : Qb w x F k) (hb : Bel x y) : Qb w y F k := ⟨h.1, Nat.lt_of_lt_of_le h.2.1 hb.size, h.2.2⟩
theorem OwnQ.bel {w x y : World} {F : List Nat} {v : Value} {L : List (List (List UInt8))} (h : OwnQ w x F v L) (hb : Bel x y) : OwnQ w y F v L :=
 ⟨(h.own.bel hb).mono (fun k hk => hk.bel hb) (Nat.le_refl _), fun k hk => (h.blk k hk).bel hb⟩
theorem OwnQ.step {w x y : World} {F G : List Nat} {v : Value} {L : List (List (List UInt8))} (h : OwnQ w x F v L) (hk : Keep F x y) (hG : ∀ k ∈ G, k ∈ F ∨ x.heap.size ≤ k) : OwnQ w y G v L := by
 have hq : ∀ k, Qb w x F k → y.heap[k]? = x.heap[k]? := fun k h => hk.block k h.2.1 h.2.2
 have hm : ∀ k, Qb w x F k → Qb w y G k := fun k h => ⟨h.1, Nat.lt_of_lt_of_le h.2.1 hk.size, fun hm => by
  rcases hG k hm with h1 | h1
  ·exact h.2.2 h1
  ·have := h.2.1; omega⟩
 exact ⟨(h.own.keep hq (fun k hk' => hq k (h.blk k hk'))).mono hm (Nat.le_refl _), fun k hk' => hm k (h.blk k hk')⟩
theorem OwnQ.lower {w w' x : World} {F : List Nat} {v : Value} {L : List (List (List UInt8))} (h : OwnQ w x F v L) (hw : w'.heap.size ≤ w.heap.size) : OwnQ w' x F v L :=
 ⟨(h.own.low hw).mono (fun k hk => ⟨Nat.le_trans hw hk.1, hk.2⟩) (Nat.le_refl _), fun k hk => ⟨Nat.le_trans hw (h.blk k hk).1, (h.blk k hk).2⟩⟩
theorem OwnL.bound {n : Nat} {P : Nat → Prop} {B : Nat} {x : World} {v : Value} {L : List (List (List UInt8))} (h : OwnL n P B x v L) : OwnL n (fun k => P k ∧ k < x.heap.size) B x v L := by
 obtain ⟨H, h1, h2, h3⟩ := h.ex
 refine ⟨H, h1, h2, fun i s l hs hl => ?_⟩
 obtain ⟨q1, q2⟩ := h3 i s l hs hl
 exact ⟨⟨q1.len, q1.at_, fun hne a ha => ⟨q1.blk hne a ha, strs_lt q1.at_ hne a ha⟩⟩, q2⟩
theorem OwnL.ownlt {n : Nat} {P : Nat → Prop} {B : Nat} {x : World} {v : Value} {L : List (List (List UInt8))} (h : OwnL n P B x v L) : ∀ k, v.ownBlock = some k → B ≤ k ∧ k < x.heap.size := by
 obtain ⟨H, h1, h2, h3⟩ := h.ex
 exact h1.lt
theorem OwnQ.of {x y : World} {F : List Nat} {v : Value} {L : List (List (List UInt8))} (h : OwnL 0 (fun k => x.heap.size ≤ k) x.heap.size y v L) (hF : ∀ k ∈ F, k < x.heap.size) : OwnQ x y F v L :=
 ⟨h.bound.mono (fun k hk => ⟨hk.1, hk.2, fun hm => by have := hF k hm; omega⟩) (Nat.le_refl _), fun k hk => by
  have := h.ownlt k hk
  exact ⟨this.1, this.2, fun hm => by have := hF k hm; omega⟩⟩
theorem prog_lt {n : Nat} {x : World} {b : Nat} {M : RS} {F : List Nat} (h : ProgAt n x b M F) : ∀ k ∈ F, k < x.heap.size := fun k hk => (h.within k hk).2
theorem read_lt : ∀ (n : Nat) (s : List UInt8), s.length ≤ n → (readL s).2.2 ≠ 0 → (readL s).2.1 < s.length
 | n, s, hn, he => by
  by_cases hs : s = []
  ·subst hs; exact absurd rfl he
  obtain ⟨l, r, e, hF⟩ : ∃ l r e, firstL s = (l, r, e) := ⟨_, _, _, rfl⟩
  by_cases h0 : e = 0
  ·subst h0
   obtain ⟨t, -, -, hlt⟩ := first_rest hF
   rw [read_next hF] at he ⊢
   cases n with
   | zero => omega
   | succ n =>
    have := read_lt n r (by omega) he
    simp only; omega
  ·rw [read_end hs hF h0]
   exact List.length_pos_iff.2 hs
def RdPost (n₀ : Nat) (w : World) (b : Nat) (F : List Nat) (M' : RS) (L : List (List (List UInt8))) (err : Int) (e : Ending) (y : World) : Prop :=
 ∃ v F', e = .returned (.tuple #[v, .int .i64 err]) ∧ ProgAt n₀ y b M' F' ∧ Keep F w y ∧ (∀ k ∈ F', k ∈ F ∨ w.heap.size ≤ k) ∧ OwnQ w y F' v L
def wholeS (s : List UInt8) : List (List (List UInt8)) × Int := if (readL s).2.2 = 0 then ((readL s).1, 0) else ([], (readL s).2.2)

set_option maxHeartbeats 4000000 in
theorem whole_any (n₀ : Nat) (w : World) (b : Nat) (M : RS) (F : List Nat) (nm : ByteArray) (y : FI) (h : ProgAt n₀ w b M F) (hM : M.ok) (hg : M.gone = false) (hnm : nm.size ≤ 1000) (hy : getF nm.data.toList M.L = some y) (hsz : y.bytes.length ≤ 1000000) :
  Calls Tryz.prog 124 #[.pointer (some ⟨b, 0, none⟩), .string nm] w (RdPost n₀ w b F M (wholeS y.bytes).1 (wholeS y.bytes).2) := by
 have HP := Lib.hid h
 have HFL := Lib.hid (prog_lt h)
 have HGS := Lib.hid (show getS nm.data.toList M = (y.bytes, 0) by unfold getS; rw [hg, hy]; rfl)
 have hbz := str_len y.bytes
 have HBL := Lib.hid (str_list y.bytes)
 obtain ⟨L, k, e, hR⟩ : ∃ L k e, readL y.bytes = (L, k, e) := ⟨_, _, _, rfl⟩
 have HR := Lib.hid hR
 have HW := Lib.hid (show wholeS y.bytes = if e = 0 then (L, 0) else ([], e) by unfold wholeS; rw [hR])
 clear h hy hR hM
 go_enter Tryz.func124, Tryz.ntmps124
 go_wp2_with (fail)
 refine (pget_any n₀ w b M F nm HP.out (by unfold maxLen; omega)).mono ?_
 rintro e' w1 ⟨rfl, hb1⟩
 rw [HGS.out]
 have HB1 := Lib.hid hb1; clear hb1
 go_wp2_with (fail)
 refine (batches_any ⟨y.bytes.toArray⟩ _ (by omega)).mono ?_
 rintro e' w2 ⟨v, rfl, hown, hb2⟩
 rw [str_list, HR.out] at hown ⊢
 have HB2 := Lib.hid (HB1.out.trans hb2)
 have HO := Lib.hid ((OwnQ.of hown (F := F) (fun k hk => Nat.lt_of_lt_of_le (HFL.out k hk) HB1.out.size)).lower HB1.out.size)
 clear hown hb2
 by_cases he : e = 0
 ·subst he
  rw [if_pos rfl] at HW
  go_wp2_with (fail)
  go_ret2
  rw [HW.out]
  exact ⟨_, F, rfl, HP.out.bel HB2.out, Keep.of_bel HB2.out F, fun k hk => Or.inl hk, HO.out⟩
 ·rw [if_neg he] at HW
  have hx3 : (e != 0) = true := by rw [bne_iff_ne]; exact he
  have hx2 : (e == 0) = false := by rw [beq_eq_false_iff_ne]; exact he
  go_wp2_with (fail)
  go_ret2
  rw [HW.out]
  exact ⟨_, F, rfl, HP.out.bel HB2.out, Keep.of_bel HB2.out F, fun k hk => Or.inl hk, OwnQ.nil _ _ _⟩
def mendedS (nm : List UInt8) (s : List UInt8) (M : RS) : List (List (List UInt8)) × Int × RS :=
 if (readL s).2.2 = 0 then ((readL s).1, 0, M) else if (mendS nm ((readL s).2.1 : Nat) M).1 = 0 then ((readL s).1, 0, (mendS nm ((readL s).2.1 : Nat) M).2) else ([], (mendS nm ((readL s).2.1 : Nat) M).1, (mendS nm ((readL s).2.1 : Nat) M).2)
set_option maxHeartbeats 4000000 in
theorem mended_any (n₀ : Nat) (w : World) (b : Nat) (M : RS) (F : List Nat) (nm : ByteArray) (y : FI) (h : ProgAt n₀ w b M F) (hM : M.ok) (hg : M.gone = false) (hnm : nm.size ≤ 1000) (hy : getF nm.data.toList M.L = some y) (hsz : y.bytes.length ≤ 1000000) :
  Calls Tryz.prog 125 #[.pointer (some ⟨b, 0, none⟩), .string nm] w (RdPost n₀ w b F (mendedS nm.data.toList y.bytes M).2.2 (mendedS nm.data.toList y.bytes M).1 (mendedS nm.data.toList y.bytes M).2.1) := by
 have HP := Lib.hid h
 have HM := Lib.hid hM
 have HFL := Lib.hid (prog_lt h)
 have HGS := Lib.hid (show getS nm.data.toList M = (y.bytes, 0) by unfold getS; rw [hg, hy]; rfl)
 have hbz := str_len y.bytes
 have HBL := Lib.hid (str_list y.bytes)
 obtain ⟨L, k, e, hR⟩ : ∃ L k e, readL y.bytes = (L, k, e) := ⟨_, _, _, rfl⟩
 have HR := Lib.hid hR
 have HW := Lib.hid (show mendedS nm.data.toList y.bytes M = if e = 0 then (L, 0, M) else if (mendS nm.data.toList k M).1 = 0 then (L, 0, (mendS nm.data.toList k M).2) else ([], (mendS nm.data.toList k M).1, (mendS nm.data.toList k M).2) by unfold mendedS; rw [hR])
 have hsize := read_size y.bytes.length y.bytes (Nat.le_refl _)
 have hlt := read_lt y.bytes.length y.bytes (Nat.le_refl _)
 rw [hR] at hsize hlt
 simp only at hsize hlt
 clear h hy hR hM
 go_enter Tryz.func125, Tryz.ntmps125
 go_wp2_with (fail)
 refine (pget_any n₀ w b M F nm HP.out (by unfold maxLen; omega)).mono ?_
 rintro e' w1 ⟨rfl, hb1⟩
 rw [HGS.out]
 have HB1 := Lib.hid hb1; clear hb1
 go_wp2_with (fail)
 refine (batches_any ⟨y.bytes.toArray⟩ _ (by omega)).mono ?_
 rintro e' w2 ⟨v, rfl, hown, hb2⟩
 rw [str_list, HR.out] at hown ⊢
 have HB2 := Lib.hid (HB1.out.trans hb2)
 have HO := Lib.hid ((OwnQ.of hown (F := F) (fun k hk => Nat.lt_of_lt_of_le (HFL.out k hk) HB1.out.size)).lower HB1.out.size)
 clear hown hb2
 by_cases he : e = 0
 ·subst he
  rw [if_pos rfl] at HW
  have hk : k = y.bytes.length := hsize.2.2.1 rfl
  subst hk
  clear hsize hlt
  go_wp2_with (fail)
  go_ret2
  rw [HW.out]
  exact ⟨_, F, rfl, HP.out.bel HB2.out, Keep.of_bel HB2.out F, fun k hk => Or.inl hk, HO.out⟩
 ·rw [if_neg he] at HW
  have hkl := hlt he
  have hne : ((k : Int) == (y.bytes.length : Int)) = false := by rw [beq_eq_false_iff_ne]; omega
  clear hsize hlt
  have HKZ := Lib.hid (show in64 (k : Int) from ⟨by omega, by omega⟩)
  obtain ⟨M1, r1, hc⟩ : ∃ M1 r1, cutS nm.data.toList (k : Int) M = (r1, M1) := ⟨_, _, rfl⟩
  have HC := Lib.hid hc
  have HM1 := Lib.hid (show M1.ok by have := cut_ok HM.out nm.data.toList (k : Int); rwa [hc] at this)
  clear hc
  go_wp2_with (fail)
  refine (pcut_any n₀ w2 b M F nm k HKZ.out (fun z hz => (each_ok HM.out z hz).1) (HP.out.bel HB2.out) (by unfold maxLen; omega) HM.out.srt (good_len HM.out)).mono ?_
  rintro e' w3 ⟨rfl, hT3⟩
  rw [HC.out] at hT3 ⊢
  obtain ⟨F3, hP3, hK3, hF3⟩ := hT3
  have HP3 := Lib.hid hP3
  have HK3 := Lib.hid hK3
  have HF3 := Lib.hid hF3
  have HO3 := Lib.hid (HO.out.step hK3 hF3)
  clear hP3 hK3 hF3
  by_cases h1 : r1 = 0
  ·subst h1
   obtain ⟨M2, r2, hf⟩ : ∃ M2 r2, flushS nm.data.toList M1 = (r2, M2) := ⟨_, _, rfl⟩
   have HFl := Lib.hid hf
   have HMD := Lib.hid (show mendS nm.data.toList (k : Int) M = (r2, M2) by unfold mendS; rw [HC.out, if_neg (by simp)]; exact hf)
   rw [HMD.out] at HW
   clear hf
   go_wp2_with (fail)
   refine (pflush_any n₀ w3 b M1 F3 nm HP3.out (by unfold maxLen; omega) HM1.out.srt (good_len HM1.out)).mono ?_
   rintro e' w4 ⟨rfl, hT4⟩
   rw [HFl.out] at hT4 ⊢
   obtain ⟨F4, hP4, hK4, hF4⟩ := hT4
   have HP4 := Lib.hid hP4
   have HO4 := Lib.hid (HO3.out.step hK4 hF4)
   have HK4 := Lib.hid (show Keep F w w4 from ((Keep.of_bel HB2.out F).trans HK3.out (fun x hx => Or.inl hx)).trans hK4 (fun x hx => (HF3.out x hx).imp id (fun h => Nat.le_trans HB2.out.size h)))
   have HF4 := Lib.hid (show ∀ k ∈ F4, k ∈ F ∨ w.heap.size ≤ k from fun x hx => by
    rcases hF4 x hx with h | h
    ·exact (HF3.out x h).imp id (fun h => Nat.le_trans HB2.out.size h)
    ·exact Or.inr (Nat.le_trans HB2.out.size (Nat.le_trans HK3.out.size h)))
   clear hP4 hK4 hF4
   by_cases h2 : r2 = 0
   ·subst h2
    rw [if_pos rfl] at HW
    go_wp2_with (fail)
    go_ret2
    rw [HW.out]
    exact ⟨_, F4, rfl, HP4.out, HK4.out, HF4.out, HO4.out⟩
   ·rw [if_neg h2] at HW
    have hx3 : (r2 != 0) = true := by rw [bne_iff_ne]; exact h2
    have hx2 : (r2 == 0) = false := by rw [beq_eq_false_iff_ne]; exact h2
    go_wp2_with (fail)
    go_ret2
    rw [HW.out]
    exact ⟨_, F4, rfl, HP4.out, HK4.out, HF4.out, OwnQ.nil _ _ _⟩
  ·have HMD := Lib.hid (show mendS nm.data.toList (k : Int) M = (r1, M1) by unfold mendS; rw [HC.out, if_pos h1])
   rw [HMD.out] at HW
   rw [if_neg h1] at HW
   have hx3 : (r1 != 0) = true := by rw [bne_iff_ne]; exact h1
   have hx2 : (r1 == 0) = false := by rw [beq_eq_false_iff_ne]; exact h1
   go_wp2_with (fail)
   go_ret2
   rw [HW.out]
   exact ⟨_, F3, rfl, HP3.out, (Keep.of_bel HB2.out F).trans HK3.out (fun x hx => Or.inl hx), fun x hx => (HF3.out x hx).imp id (fun h => Nat.le_trans HB2.out.size h), OwnQ.nil _ _ _⟩

def segEl : El (List UInt8 × Nat) := ⟨185, 165, 2, fun x => [.string ⟨x.1.toArray⟩, .func (.func x.2) #[] #[]]⟩
theorem segOk : ElOk segEl 24 := ⟨fun _ => rfl, fun a u hu => by simp [segEl] at hu; rcases hu with rfl | rfl <;> rfl, by kernel_rfl, ⟨.agg #[.string ⟨#[]⟩, .nilFunc], by kernel_rfl, rfl⟩, by decide⟩
def rdFn (n k : Nat) : Nat := if k + 1 = n then 125 else 124
def segF (l : List (List UInt8)) : List (List UInt8 × Nat) := l.mapIdx fun k x => (x, rdFn l.length k)
theorem segF_len (l : List (List UInt8)) : (segF l).length = l.length := by unfold segF; rw [List.length_mapIdx]
theorem segF_get (l : List (List UInt8)) (k : Nat) (h : k < l.length) : (segF l)[k]? = some (l[k], rdFn l.length k) := by
 unfold segF; rw [List.getElem?_mapIdx, List.getElem?_eq_getElem h]; rfl
theorem segF_snoc (l : List (List UInt8)) (k : Nat) (h : k < l.length) : (segF l).take (k + 1) = (segF l).take k ++ [(l[k], rdFn l.length k)] := by
 rw [List.take_add_one, segF_get l k h]; rfl

set_option maxHeartbeats 4000000 in
theorem segof_any (w : World) (p : Option Addr) (cap : Nat) (L : List (List UInt8)) (h : StrsAt w p L) (hL : L.length ≤ 60) :
  Calls Tryz.prog 95 #[.slice p L.length cap] w fun e w' => ∃ v, e = .returned v ∧ OwnG segEl w.heap.size w' v (segF L) ∧ Bel w w' := by
 have H := Lib.hid h; clear h
 go_enter Tryz.func95, Tryz.ntmps95
 go_wp2_with (fail)
 go_loopw [3, 9] (fun lv iv x => ∃ k : Nat, iv = .int .i64 k ∧ k ≤ L.length ∧ OwnG segEl w.heap.size x lv ((segF L).take k) ∧ Bel w x) (fun _ iv _ => L.length - (intOf iv).toNat)
 case atStart => exact ⟨0, rfl, Nat.zero_le _, OwnG.nil _ _ _, Bel.refl _⟩
 case round =>
  obtain ⟨k, rfl, hk, hown, hb⟩ := hrel
  have hkl : ((segF L).take k).length = k := by rw [List.length_take, segF_len]; omega
  obtain ⟨lp, lc, hlv⟩ := ownG_len hown
  rw [hkl] at hlv
  subst hlv
  have HB := Lib.hid hb
  have HO := Lib.hid hown
  clear hown hb
  by_cases hlt : k < L.length
  ·obtain ⟨a, rfl, hc⟩ := (H.out.bel HB.out) k hlt
   have HSN := Lib.hid (segF_snoc L k hlt)
   obtain ⟨nm, hnm⟩ : ∃ nm, nm = L[k] := ⟨_, rfl⟩
   rw [← hnm] at hc HSN
   clear hnm
   by_cases hl : k + 1 = L.length
   ·have hl2 : ((k : Int) == (L.length : Int) - 1) = true := by rw [beq_iff_eq]; omega
    have hrd : rdFn L.length k = 125 := by unfold rdFn; rw [if_pos hl]
    rw [hrd] at HSN
    clear hl
    go_wp2_with (at_builtin; refine stop_here ?_)
    refine go_on ?_
    refine append_glit (L := (segF L).take k) segOk rfl _ _ rfl rfl HO.out _ _ _ [(nm, 125)] rfl rfl rfl (by unfold maxLen; simp only [List.length_singleton]; omega) (by simp only [List.length_singleton]; omega) HB.out.size (Or.inl rfl) ?_
    intro v3 w3 hown3 hb3 hZ3
    obtain ⟨p3, c3, hv3⟩ := ownG_len hown3
    rw [List.length_append, hkl, List.length_singleton] at hv3
    subst hv3
    have HV3 := Lib.hid hown3
    have HB3 := Lib.hid (HB.out.trans_below hb3)
    clear hown3 hb3
    go_wp2_with (fail)
    go_roundw
    case rel => exact ⟨k + 1, by go_num, by omega, by rw [HSN.out]; exact HV3.out, HB3.out⟩
    case measure => simp [intOf]; omega
   ·have hl2 : ((k : Int) == (L.length : Int) - 1) = false := by rw [beq_eq_false_iff_ne]; omega
    have hrd : rdFn L.length k = 124 := by unfold rdFn; rw [if_neg hl]
    rw [hrd] at HSN
    clear hl
    go_wp2_with (at_builtin; refine stop_here ?_)
    refine go_on ?_
    refine append_glit (L := (segF L).take k) segOk rfl _ _ rfl rfl HO.out _ _ _ [(nm, 124)] rfl rfl rfl (by unfold maxLen; simp only [List.length_singleton]; omega) (by simp only [List.length_singleton]; omega) HB.out.size (Or.inl rfl) ?_
    intro v3 w3 hown3 hb3 hZ3
    obtain ⟨p3, c3, hv3⟩ := ownG_len hown3
    rw [List.length_append, hkl, List.length_singleton] at hv3
    subst hv3
    have HV3 := Lib.hid hown3
    have HB3 := Lib.hid (HB.out.trans_below hb3)
    clear hown3 hb3
    go_wp2_with (fail)
    go_roundw
    case rel => exact ⟨k + 1, by go_num, by omega, by rw [HSN.out]; exact HV3.out, HB3.out⟩
    case measure => simp [intOf]; omega
  ·obtain rfl : k = L.length := by omega
   go_wp2_with (fail)
   go_ret
   have := HO.out
   rw [List.take_of_length_le (by rw [segF_len]; exact Nat.le_refl _)] at this
   exact ⟨_, rfl, this, HB.out⟩

theorem readSegs_lens (p : List UInt8) : ∀ (l : List Nat) (M : RS), (∀ y ∈ M.L, y.bytes.length ≤ 1000000) → (readSegs p l M).2.1.length ≤ 1000000 * l.length
 | [], M, h => by simp [readSegs]
 | n :: r, M, h => by
  have ih := readSegs_lens p r M h
  have h1 : (readL (bytesOf (fileN p n) M)).1.length ≤ 1000000 := by
   refine Nat.le_trans (read_size _ _ (Nat.le_refl _)).2.1 ?_
   unfold bytesOf
   cases hy : getF (fileN p n) M.L with
   | none => simp
   | some y => exact h y (getF_mem hy)
  simp only [readSegs]
  split
  ·split
   ·simp only [List.length_append, List.length_cons]; omega
   ·simp
  ·split
   ·simp
   ·split
    ·simp only [List.length_cons]; omega
    ·simp
def joinS (acc : List (List (List UInt8))) (r : Int × List (List (List UInt8)) × RS) : Int × List (List (List UInt8)) × RS := if r.1 = 0 then (0, acc ++ r.2.1, r.2.2) else (r.1, [], r.2.2)
theorem join_join (a b : List (List (List UInt8))) (r : Int × List (List (List UInt8)) × RS) : joinS a (joinS b r) = joinS (a ++ b) r := by
 unfold joinS
 by_cases h : r.1 = 0
 ·rw [if_pos h, if_pos h]; simp
 ·rw [if_neg h, if_neg h]; simp only; rw [if_neg h]
theorem join_zero (a b : List (List (List UInt8))) (M : RS) : joinS a (0, b, M) = (0, a ++ b, M) := rfl
theorem join_err (a b : List (List (List UInt8))) (M : RS) {e : Int} (he : e ≠ 0) : joinS a (e, b, M) = (e, [], M) := by unfold joinS; rw [if_neg he]
def LeftS (p : List UInt8) (l : List Nat) (M : RS) (k : Nat) (acc : List (List (List UInt8))) (Mk : RS) : Prop :=
 (k < l.length → Mk = M) ∧ readSegs p l M = joinS acc (readSegs p (l.drop k) Mk)
theorem read_err (p : List UInt8) (l : List Nat) (M : RS) (h : (readSegs p l M).1 ≠ 0) : (readSegs p l M).2.1 = [] := by
 cases l with
 | nil => exact absurd rfl h
 | cons n r =>
  revert h
  simp only [readSegs]
  split
  ·split
   ·intro h; exact absurd rfl h
   ·intro _; rfl
  ·split
   ·intro _; rfl
   ·split
    ·intro h; exact absurd rfl h
    ·intro _; rfl
theorem left_start (p : List UInt8) (l : List Nat) (M : RS) : LeftS p l M 0 [] M := by
 refine ⟨fun _ => rfl, ?_⟩
 rw [List.drop_zero]
 unfold joinS
 split
 ·rename_i h; rw [List.nil_append, ← h]
 ·rename_i h; rw [← read_err p l M h]
theorem run_store_fn (w : World) (a : Addr) (m : Mode) (f : Fn) (x y : Array Value) : (store a (.func f x y) m).run Tryz.prog w = stored Tryz.prog w a (.func f x y) m := run_store Tryz.prog w a _ m rfl
theorem ownq_append {w x : World} {F : List Nat} {v yv : Value} {L M : List (List (List UInt8))} {ops : Array Oper} {rest : List Oper} {o : Oper} {a : Act} {Q : Exit → Act → World → Prop} (hgd : o.guard = none) (s y : Operand)
  (ho : o.op = .call { callee := .builtin .append, args := #[s, y], argTypes := #[126, 126] }) (hs : a.eval s = v) (hy : a.eval y = yv) (hown : OwnQ w x F v L) (hown2 : OwnQ w x F yv M)
  (hl1 : L.length + M.length ≤ 1000000000) (hF : ∀ k ∈ F, k < x.heap.size) (hw : w.heap.size ≤ x.heap.size)
  (h : ∀ v' z, OwnQ w z F v' (L ++ M) → Keep v.ownBlock.toList x z → wpList Tryz.prog ops Q rest (a.put o.dst v') z) : wpList Tryz.prog ops Q (o :: rest) a x := by
 obtain ⟨H, h1, h2, h3⟩ := hown.own.ex
 obtain ⟨K, k1, k2, k3⟩ := hown2.own.ex
 refine append_src slOk hgd s y ho hs h1 K hy (own_src slOk k1) (by unfold maxLen; omega) (by omega) hw ?_
 intro v' z hz hb hkeep hwh
 have hz' : Below x.heap.size x z ∨ True := Or.inr trivial
 have hks : Keep v.ownBlock.toList x z := ⟨hb.os, hb.tape, hb.output, hb.size, fun k hk hn => hkeep k hk (fun e => hn (by rw [← e]; simp))⟩
 have hm : ∀ k, Qb w x F k → Qb w z F k := fun k hk => ⟨hk.1, Nat.lt_of_lt_of_le hk.2.1 hb.size, hk.2.2⟩
 refine h v' z ⟨OwnL.mono ⟨H ++ K, hz, by simp [h2, k2], els_app h2 (els_keep h1 (Nat.zero_le _) h3 hkeep) (els_keep h1 (Nat.zero_le _) k3 hkeep)⟩ hm (Nat.le_refl _), fun k hk => ?_⟩ hks
 have hlt := hz.lt k hk
 rcases hwh with e | e
 ·exact hm k (hown.blk k (by rw [← e, hk]))
 ·rw [hk, Option.some.injEq] at e
  subst e
  exact ⟨hw, hlt.2, fun hm => by have := hF _ hm; omega⟩
theorem left_next {p : List UInt8} {l : List Nat} {M : RS} {k : Nat} {acc : List (List (List UInt8))} (h : LeftS p l M k acc M) (hk : k < l.length) {L2 : List (List (List UInt8))} (hw : wholeS (bytesOf (fileN p l[k]) M) = (L2, 0)) : LeftS p l M (k + 1) (acc ++ L2) M := by
 refine ⟨fun _ => rfl, ?_⟩
 have hread : readSegs p (l.drop k) M = joinS L2 (readSegs p (l.drop (k + 1)) M) := by
  rw [List.drop_eq_getElem_cons hk]
  unfold wholeS at hw
  split at hw
  ·rename_i h0
   simp only [Prod.mk.injEq, and_true] at hw
   simp only [readSegs]
   rw [if_pos h0, hw]
   rfl
  ·rename_i h0
   simp only [Prod.mk.injEq] at hw
   exact absurd hw.2 h0
 rw [h.2, hread, join_join]
theorem left_fail {p : List UInt8} {l : List Nat} {M : RS} {k : Nat} {acc : List (List (List UInt8))} (h : LeftS p l M k acc M) (hk : k < l.length) (hne : k + 1 ≠ l.length) {L2 : List (List (List UInt8))} {e : Int} (he : e ≠ 0) (hw : wholeS (bytesOf (fileN p l[k]) M) = (L2, e)) : readSegs p l M = (e, [], M) := by
 have hread : readSegs p (l.drop k) M = (e, [], M) := by
  rw [List.drop_eq_getElem_cons hk]
  unfold wholeS at hw
  split at hw
  ·simp only [Prod.mk.injEq] at hw; exact absurd hw.2.symm he
  ·rename_i h0
   simp only [Prod.mk.injEq] at hw
   have hr : l.drop (k + 1) ≠ [] := by intro e; have := congrArg List.length e; rw [List.length_drop, List.length_nil] at this; omega
   simp only [readSegs]
   rw [if_neg h0, if_pos hr, hw.2]
 rw [h.2, hread, join_err _ _ _ he]
theorem left_last {p : List UInt8} {l : List Nat} {M : RS} {k : Nat} {acc : List (List (List UInt8))} (h : LeftS p l M k acc M) (hk : k < l.length) (hl : k + 1 = l.length) {L2 : List (List (List UInt8))} {e : Int} {M2 : RS} (hw : mendedS (fileN p l[k]) (bytesOf (fileN p l[k]) M) M = (L2, e, M2)) :
  (e = 0 → LeftS p l M (k + 1) (acc ++ L2) M2) ∧ (e ≠ 0 → readSegs p l M = (e, [], M2)) := by
 have hr : l.drop (k + 1) = [] := List.drop_eq_nil_of_le (by omega)
 have hread : readSegs p (l.drop k) M = (e, L2, M2) := by
  rw [List.drop_eq_getElem_cons hk, hr]
  unfold mendedS at hw
  simp only [readSegs]
  split at hw
  ·rename_i h0
   simp only [Prod.mk.injEq] at hw
   obtain ⟨rfl, rfl, rfl⟩ := hw
   rw [if_pos h0]; simp
  ·rename_i h0
   rw [if_neg h0]
   simp only [ne_eq, not_true_eq_false, if_false]
   split at hw
   ·rename_i h1
    simp only [Prod.mk.injEq] at hw
    obtain ⟨rfl, rfl, rfl⟩ := hw
    rw [if_pos h1]
   ·rename_i h1
    simp only [Prod.mk.injEq] at hw
    obtain ⟨rfl, rfl, rfl⟩ := hw
    rw [if_neg h1]
 refine ⟨fun he => ⟨fun hlt => absurd hlt (by omega), ?_⟩, fun he => ?_⟩
 ·subst he
  rw [h.2, hread, hr, join_zero]
  simp [readSegs, joinS]
 ·rw [h.2, hread, join_err _ _ _ he]
theorem left_end {p : List UInt8} {l : List Nat} {M Mk : RS} {acc : List (List (List UInt8))} (h : LeftS p l M l.length acc Mk) : readSegs p l M = (0, acc, Mk) := by
 rw [h.2, List.drop_length]; simp [readSegs, joinS]
theorem bytesOf_get {nm : List UInt8} {M : RS} {y : FI} (h : getF nm M.L = some y) : bytesOf nm M = y.bytes := by unfold bytesOf; rw [h]
theorem whole_len (s : List UInt8) (h : s.length ≤ 1000000) : (wholeS s).1.length ≤ 1000000 := by
 unfold wholeS
 split
 ·exact Nat.le_trans (read_size _ _ (Nat.le_refl _)).2.1 h
 ·simp
theorem mended_len (nm s : List UInt8) (M : RS) (h : s.length ≤ 1000000) : (mendedS nm s M).1.length ≤ 1000000 := by
 unfold mendedS
 split
 ·exact Nat.le_trans (read_size _ _ (Nat.le_refl _)).2.1 h
 ·split
  ·exact Nat.le_trans (read_size _ _ (Nat.le_refl _)).2.1 h
  ·simp
def RaRel (n₀ : Nat) (w : World) (b : Nat) (F : List Nat) (p : List UInt8) (l : List Nat) (M : RS) (sv : Value) (ov iv : Value) (x : World) : Prop :=
 ∃ (k : Nat) (acc : List (List (List UInt8))) (Mk : RS) (Fk : List Nat), iv = .int .i64 k ∧ k ≤ l.length ∧ ProgAt n₀ x b Mk Fk ∧ Keep F w x ∧ (∀ j ∈ Fk, j ∈ F ∨ w.heap.size ≤ j) ∧ OwnQ w x Fk ov acc ∧ LeftS p l M k acc Mk ∧ acc.length ≤ 1000000 * k ∧ OwnG segEl 0 x sv (segF (l.map (fileN p)))

set_option maxHeartbeats 4000000 in
theorem readall_any (n₀ : Nat) (w : World) (b : Nat) (M : RS) (F : List Nat) (p : List UInt8) (l : List Nat) (sv : Value) (h : ProgAt n₀ w b M F) (hM : M.ok) (hg : M.gone = false) (hp : p.length ≤ 100) (hl : ∀ n ∈ l, n ≤ 9999999 ∧ ∃ y, getF (fileN p n) M.L = some y) (hl60 : l.length ≤ 60) (hsz : ∀ y ∈ M.L, y.bytes.length ≤ 1000000)
  (hs : OwnG segEl 0 w sv (segF (l.map (fileN p)))) (hsF : ∀ k, sv.ownBlock = some k → k < w.heap.size ∧ k ∉ F) :
  Calls Tryz.prog 94 #[.pointer (some ⟨b, 0, none⟩), sv] w (RdPost n₀ w b F (readSegs p l M).2.2 (readSegs p l M).2.1 (readSegs p l M).1) := by
 have HP := Lib.hid h
 have HM := Lib.hid hM
 have HL := Lib.hid hl
 have HS := Lib.hid hs
 have HSZ := Lib.hid hsz
 have hsl : (segF (l.map (fileN p))).length = l.length := by rw [segF_len, List.length_map]
 obtain ⟨sp, sc, hsv⟩ := ownG_len hs
 rw [hsl] at hsv
 have HSF := Lib.hid hsF
 subst hsv
 clear h hM hl hs hsz hsF
 go_enter Tryz.func94, Tryz.ntmps94
 go_wp2_with (fail)
 go_loopw [6, 13] (fun ov iv x => RaRel n₀ w b F p l M (.slice sp l.length sc) ov iv x) (fun _ iv _ => l.length - (intOf iv).toNat)
 case atStart => exact ⟨0, [], M, F, rfl, Nat.zero_le _, HP.out, Keep.refl _ _, fun j hj => Or.inl hj, OwnQ.nil _ _ _, left_start _ _ _, by simp, HS.out⟩
 case round =>
  obtain ⟨k, acc, Mk, Fk, rfl, hk, hpk, hkeep, hfk, hoq, hleft, hal, hseg⟩ := hrel
  have HPK := Lib.hid hpk
  have HK := Lib.hid hkeep
  have HFK := Lib.hid hfk
  have HO := Lib.hid hoq
  have HLF := Lib.hid hleft
  have HSG := Lib.hid hseg
  have HFL := Lib.hid (prog_lt hpk)
  obtain ⟨op, oc, hov⟩ := hoq.own.len
  subst hov
  clear hpk hkeep hfk hoq hleft hseg
  by_cases hlt : k < l.length
  ·obtain rfl : Mk = M := HLF.out.1 hlt
   have hne : segF (l.map (fileN p)) ≠ [] := by intro e; rw [e] at hsl; simp at hsl; omega
   obtain ⟨g, sc', hv, _, hgl, _, hcs⟩ := ownG_cells segOk HSG.out hne
   rw [hsl] at hv
   simp only [Value.slice.injEq, true_and] at hv
   obtain ⟨rfl, rfl⟩ := hv
   have hget : (segF (l.map (fileN p)))[k]? = some (fileN p l[k], rdFn l.length k) := by
    have := segF_get (l.map (fileN p)) k (by rw [List.length_map]; exact hlt)
    simpa using this
   obtain ⟨hn9, y, hy⟩ := HL.out l[k] (List.getElem_mem hlt)
   have hfl := file_len p (n := l[k]) (by omega)
   have hyb := HSZ.out y (getF_mem hy)
   have HBY := Lib.hid (bytesOf_get hy)
   have hnz := str_len (fileN p l[k])
   have e0 := hcs k _ hget 0 _ rfl
   have e1 := hcs k _ hget 1 _ rfl
   simp only [segEl, Nat.add_zero] at e0 e1
   have HWH := Lib.hid (fun (z : World) (F' : List Nat) (h : ProgAt n₀ z b Mk F') => whole_any n₀ z b Mk F' (⟨(fileN p l[k]).toArray⟩ : ByteArray) y h HM.out hg (by omega) (by rw [str_list]; exact hy) hyb)
   have HMD := Lib.hid (fun (z : World) (F' : List Nat) (h : ProgAt n₀ z b Mk F') => mended_any n₀ z b Mk F' (⟨(fileN p l[k]).toArray⟩ : ByteArray) y h HM.out hg (by omega) (by rw [str_list]; exact hy) hyb)
   rw [str_list] at HMD
   have hgF : g < w.heap.size ∧ g ∉ F := HSF.out g rfl
   have hgk : g ∉ Fk := fun hm => by
    rcases HFK.out g hm with h | h
    ·exact hgF.2 h
    ·omega
   by_cases hlast : k + 1 = l.length
   ·have hrd : rdFn l.length k = 125 := by unfold rdFn; rw [if_pos hlast]
    rw [hrd] at e1
    obtain ⟨L2, er, M2, hw⟩ : ∃ L2 er M2, mendedS (fileN p l[k]) y.bytes Mk = (L2, er, M2) := ⟨_, _, _, rfl⟩
    have hwl := mended_len (fileN p l[k]) y.bytes Mk hyb
    rw [hw] at hwl
    have HW := Lib.hid (show mendedS (fileN p l[k]) (bytesOf (fileN p l[k]) Mk) Mk = (L2, er, M2) by rw [HBY.out]; exact hw)
    have HLL := Lib.hid (left_last HLF.out hlt hlast HW.out)
    simp only [hw] at HMD
    generalize fileN p l[k] = nm at e0 HMD hnz hfl
    clear hget hy hcs hne HWH hw hrd
    have hsf := run_store_fn
    go_wp2_with (fail)
    have HB1 := Lib.hid ((Bel.refl wr).alloc (.cells #[.string ⟨nm.toArray⟩, .func (.func 125) #[] #[]] 185))
    refine (HMD.out _ Fk (HPK.out.bel HB1.out)).mono ?_
    rintro e' w2 ⟨v2, F2, rfl, hp2, hk2, hf2, hq2⟩
    have HP2 := Lib.hid hp2
    have HK2 := Lib.hid ((Keep.of_bel HB1.out Fk).trans hk2 (fun x hx => Or.inl hx))
    have HF2 := Lib.hid (show ∀ j ∈ F2, j ∈ Fk ∨ wr.heap.size ≤ j from fun j hj => (hf2 j hj).imp id (fun h => Nat.le_trans HB1.out.size h))
    have HQ2 := Lib.hid (hq2.lower (w' := w) (Nat.le_trans HK.out.size HB1.out.size))
    have HA2 := Lib.hid (HO.out.step HK2.out HF2.out)
    have HFL2 := Lib.hid (prog_lt hp2)
    have HKW := Lib.hid (show Keep F w w2 from HK.out.trans HK2.out (fun x hx => HFK.out x hx))
    have HFW := Lib.hid (show ∀ j ∈ F2, j ∈ F ∨ w.heap.size ≤ j from fun j hj => by
     rcases HF2.out j hj with h | h
     ·exact HFK.out j h
     ·exact Or.inr (Nat.le_trans HK.out.size h))
    have HS2 := Lib.hid (HSG.out.keep HK2.out (fun j hj => by simp only [Value.ownBlock, Option.some.injEq] at hj; subst hj; exact hgk))
    clear hp2 hk2 hf2 hq2
    by_cases he : er = 0
    ·subst he
     have HLN := Lib.hid (HLL.out.1 rfl)
     go_wp2_with (at_builtin; refine stop_here ?_)
     refine go_on ?_
     refine ownq_append rfl _ _ rfl rfl rfl HA2.out HQ2.out (by omega) HFL2.out HKW.out.size ?_
     intro v3 z3 hq3 hk3
     obtain ⟨p3, c3, hv3⟩ := hq3.own.len
     rw [List.length_append] at hv3
     subst hv3
     have HQ3 := Lib.hid hq3
     have HP3 := Lib.hid (HP2.out.keep hk3 (fun j hj hm => by
      rw [Option.mem_toList] at hm
      exact (HA2.out.blk j hm).2.2 hj))
     have HK3 := Lib.hid (HKW.out.trans hk3 (fun j hj => by
      rw [Option.mem_toList] at hj
      exact Or.inr (HA2.out.blk j hj).1))
     have HS3 := Lib.hid (HS2.out.keep hk3 (fun j hj hm => by
      simp only [Value.ownBlock, Option.some.injEq] at hj; subst hj
      rw [Option.mem_toList] at hm
      have := (HA2.out.blk _ hm).1
      omega))
     clear hq3 hk3
     go_wp2_with (fail)
     go_roundw
     case rel => exact ⟨k + 1, acc ++ L2, M2, F2, by go_num, by omega, HP3.out, HK3.out, HFW.out, HQ3.out, HLN.out, by rw [List.length_append]; omega, HS3.out⟩
     case measure => simp [intOf]; omega
    ·have HE := Lib.hid (HLL.out.2 he)
     have hx3 : (er != 0) = true := by rw [bne_iff_ne]; exact he
     have hx2 : (er == 0) = false := by rw [beq_eq_false_iff_ne]; exact he
     go_wp2_with (fail)
     go_ret2
     rw [HE.out]
     exact ⟨_, F2, rfl, HP2.out, HKW.out, HFW.out, OwnQ.nil _ _ _⟩
   ·have hrd : rdFn l.length k = 124 := by unfold rdFn; rw [if_neg hlast]
    rw [hrd] at e1
    obtain ⟨L2, er, hw⟩ : ∃ L2 er, wholeS y.bytes = (L2, er) := ⟨_, _, rfl⟩
    have hwl := whole_len y.bytes hyb
    rw [hw] at hwl
    have HW := Lib.hid (show wholeS (bytesOf (fileN p l[k]) Mk) = (L2, er) by rw [HBY.out]; exact hw)
    simp only [hw] at HWH
    have HLN0 := Lib.hid (fun (h : er = 0) => left_next HLF.out hlt (by rw [HW.out, h]))
    have HLF0 := Lib.hid (fun (h : er ≠ 0) => left_fail HLF.out hlt hlast h HW.out)
    generalize fileN p l[k] = nm at e0 HWH hnz hfl
    clear hget hy hcs hne HMD hw hrd
    have hsf := run_store_fn
    go_wp2_with (fail)
    have HB1 := Lib.hid ((Bel.refl wr).alloc (.cells #[.string ⟨nm.toArray⟩, .func (.func 124) #[] #[]] 185))
    refine (HWH.out _ Fk (HPK.out.bel HB1.out)).mono ?_
    rintro e' w2 ⟨v2, F2, rfl, hp2, hk2, hf2, hq2⟩
    have HP2 := Lib.hid hp2
    have HK2 := Lib.hid ((Keep.of_bel HB1.out Fk).trans hk2 (fun x hx => Or.inl hx))
    have HF2 := Lib.hid (show ∀ j ∈ F2, j ∈ Fk ∨ wr.heap.size ≤ j from fun j hj => (hf2 j hj).imp id (fun h => Nat.le_trans HB1.out.size h))
    have HQ2 := Lib.hid (hq2.lower (w' := w) (Nat.le_trans HK.out.size HB1.out.size))
    have HA2 := Lib.hid (HO.out.step HK2.out HF2.out)
    have HFL2 := Lib.hid (prog_lt hp2)
    have HKW := Lib.hid (show Keep F w w2 from HK.out.trans HK2.out (fun x hx => HFK.out x hx))
    have HFW := Lib.hid (show ∀ j ∈ F2, j ∈ F ∨ w.heap.size ≤ j from fun j hj => by
     rcases HF2.out j hj with h | h
     ·exact HFK.out j h
     ·exact Or.inr (Nat.le_trans HK.out.size h))
    have HS2 := Lib.hid (HSG.out.keep HK2.out (fun j hj => by simp only [Value.ownBlock, Option.some.injEq] at hj; subst hj; exact hgk))
    clear hp2 hk2 hf2 hq2
    by_cases he : er = 0
    ·subst he
     have HLN := Lib.hid (HLN0.out rfl)
     go_wp2_with (at_builtin; refine stop_here ?_)
     refine go_on ?_
     refine ownq_append rfl _ _ rfl rfl rfl HA2.out HQ2.out (by omega) HFL2.out HKW.out.size ?_
     intro v3 z3 hq3 hk3
     obtain ⟨p3, c3, hv3⟩ := hq3.own.len
     rw [List.length_append] at hv3
     subst hv3
     have HQ3 := Lib.hid hq3
     have HP3 := Lib.hid (HP2.out.keep hk3 (fun j hj hm => by
      rw [Option.mem_toList] at hm
      exact (HA2.out.blk j hm).2.2 hj))
     have HK3 := Lib.hid (HKW.out.trans hk3 (fun j hj => by
      rw [Option.mem_toList] at hj
      exact Or.inr (HA2.out.blk j hj).1))
     have HS3 := Lib.hid (HS2.out.keep hk3 (fun j hj hm => by
      simp only [Value.ownBlock, Option.some.injEq] at hj; subst hj
      rw [Option.mem_toList] at hm
      have := (HA2.out.blk _ hm).1
      omega))
     clear hq3 hk3
     go_wp2_with (fail)
     go_roundw
     case rel => exact ⟨k + 1, acc ++ L2, Mk, F2, by go_num, by omega, HP3.out, HK3.out, HFW.out, HQ3.out, HLN.out, by rw [List.length_append]; omega, HS3.out⟩
     case measure => simp [intOf]; omega
    ·have HE := Lib.hid (HLF0.out he)
     have hx3 : (er != 0) = true := by rw [bne_iff_ne]; exact he
     have hx2 : (er == 0) = false := by rw [beq_eq_false_iff_ne]; exact he
     go_wp2_with (fail)
     go_ret2
     rw [HE.out]
     exact ⟨_, F2, rfl, HP2.out, HKW.out, HFW.out, OwnQ.nil _ _ _⟩
  ·obtain rfl : k = l.length := by omega
   have HE := Lib.hid (left_end HLF.out)
   go_wp2_with (fail)
   go_ret2
   rw [HE.out]
   exact ⟨_, Fk, rfl, HPK.out, HK.out, HFK.out, HO.out⟩
end Go.Proofs.YtfbiinnenlgkfaaGreatDoor
set_option maxRecDepth 100000
namespace Go.Proofs.YtfbiinnenlgkfaaGreatDoor
open Go.RowKit Go.Deep

def intEl13 : El Int := ⟨3, 52, 1, fun i => [.int .i64 i]⟩
theorem intOk13 : ElOk intEl13 8 := ⟨fun _ => rfl, fun a u hu => by simp [intEl13] at hu; subst hu; rfl, by kernel_rfl, ⟨.int .i64 0, by kernel_rfl, rfl⟩, by decide⟩
theorem src_at13 {α : Type} {E : El α} {W : World} {B c m : Nat} {arr : Array Value} {T : TypeId} (news : List α) (h : W.heap[B]? = some (.cells arr T (0, 0))) (harr : arr.toList = E.all news) (hm : m = news.length) : SrcAt E W (.slice (some ⟨B, 0, none⟩) m c) news := by
 subst hm
 refine Or.inr ⟨_, c, rfl, fun j u hj => ?_⟩
 have e : (⟨B, 0, none⟩ : Addr).add j = ⟨B, j, none⟩ := by cases j <;> simp [Addr.add]
 rw [e]
 rw [← harr] at hj
 simp [World.cell?, h]
 simpa using hj
theorem ints_own13 {B : Nat} {w : World} {v : Value} {l : List Int} (h : OwnG intEl13 B w v l) {i : Nat} (hi : i < l.length) : ∃ g cap, v = .slice (some ⟨g, 0, none⟩) l.length cap ∧ w.cell? ⟨g, i, none⟩ = some (.int .i64 l[i]) := by
 obtain ⟨g, cap, hv, _, _, _, hc⟩ := ownG_cells intOk13 h (by intro e; rw [e] at hi; simp at hi)
 refine ⟨g, cap, hv, ?_⟩
 have := hc i l[i] (List.getElem?_eq_getElem hi) 0 _ rfl
 rw [show i * intEl13.n + 0 = i from by show i * 1 + 0 = i; omega] at this
 exact this
theorem pairs_take {l : List PL} {i : Nat} (hi : i < l.length) : pairsL (l.take (i + 1)) = pairsL (l.take i) ++ [l[i].n, l[i].l] := by
 rw [List.take_add_one, List.getElem?_eq_getElem hi, pairsL, List.flatMap_append]; rfl
theorem puts_take {l : List Int} {i : Nat} (hi : i < l.length) : putsL (l.take (i + 1)) = putsL (l.take i) ++ putL l[i].toNat := by
 rw [List.take_add_one, List.getElem?_eq_getElem hi, putsL_append]
 simp [putsL]
def packV (s : MS) : Value := if rightM s = true then .tuple #[.string ⟨(encM s).toArray⟩, .int .i64 0] else .tuple #[.string ⟨#[]⟩, .int .i64 1]
theorem pack_yes {s : MS} (h : rightM s = true) : packV s = .tuple #[.string ⟨(encM s).toArray⟩, .int .i64 0] := if_pos h
theorem pack_no {s : MS} (h : rightM s = false) : packV s = .tuple #[.string ⟨#[]⟩, .int .i64 1] := if_neg (by rw [h]; simp)
set_option maxHeartbeats 4000000 in
theorem rpack13_any (p : Option Addr) (c : Nat) (s : MS) (w : World) (h : PlsAt w p s.files) (hl : s.files.length ≤ 100000) (hz : s.mt.size ≤ 100000000) :
  Calls Tryz.prog 12 #[.agg #[.slice p s.files.length c, .int .i64 s.next, .int .i64 s.seq, .int .i64 s.log, .string s.mt]] w fun r w' => r = .returned (packV s) ∧ Bel w w' := by
 obtain ⟨w1, hw1⟩ : ∃ z, z = w.alloc (.cells #[.slice p s.files.length c, .int .i64 s.next, .int .i64 s.seq, .int .i64 s.log, .string s.mt] 28) := ⟨_, rfl⟩
 have hB1 : Bel w w1 := by rw [hw1]; exact (Bel.refl w).alloc _
 have kx : w1.heap[w.heap.size]? = some (.cells #[.slice p s.files.length c, .int .i64 s.next, .int .i64 s.seq, .int .i64 s.log, .string s.mt] 28 (0, 0)) := by rw [hw1]; exact tnew13 w _ _
 have x0 : w1.cell? ⟨w.heap.size, 0, none⟩ = some (.slice p s.files.length c) := by simp [World.cell?, kx]
 have x1 : w1.cell? ⟨w.heap.size, 1, none⟩ = some (.int .i64 s.next) := by simp [World.cell?, kx]
 have x2 : w1.cell? ⟨w.heap.size, 2, none⟩ = some (.int .i64 s.seq) := by simp [World.cell?, kx]
 have x3 : w1.cell? ⟨w.heap.size, 3, none⟩ = some (.int .i64 s.log) := by simp [World.cell?, kx]
 have x4 : w1.cell? ⟨w.heap.size, 4, none⟩ = some (.string s.mt) := by simp [World.cell?, kx]
 have H := Lib.hid (h.bel hB1)
 have HB1 := Lib.hid hB1
 have HX := Lib.hid (And.intro x0 (And.intro x1 (And.intro x2 (And.intro x3 x4))))
 have HR := Lib.hid (rright13_any p c s w1 (h.bel hB1) hl hz)
 clear h hB1 kx
 go_enter Tryz.func12, Tryz.ntmps12
 go_wp2_with (fail)
 rw [show (w.alloc (.cells #[.slice p s.files.length c, .int .i64 s.next, .int .i64 s.seq, .int .i64 s.log, .string s.mt] 28)) = w1 from hw1.symm]
 clear hw1
 refine HR.out.mono ?_
 rintro r w2 ⟨rfl, hb2⟩
 have HB2 := Lib.hid (HB1.out.trans hb2)
 have H2 := Lib.hid (H.out.bel hb2)
 have y0 := cl13 hb2 x0
 have y1 := cl13 hb2 x1
 have y2 := cl13 hb2 x2
 have y3 := cl13 hb2 x3
 have y4 := cl13 hb2 x4
 clear hb2 x0 x1 x2 x3 x4 HX H HR
 cases hr : rightM s with
 | false =>
  have HV := Lib.hid (pack_no hr)
  clear hr
  go_wp2_with (fail)
  go_ret2
  exact ⟨by rw [HV.out]; rfl, HB2.out⟩
 | true =>
  have HV := Lib.hid (pack_yes hr)
  have HNI := Lib.hid (nums_in hr)
  have h40 := (right_parts hr).2.1
  clear hr
  go_wp2_with (fail)
  obtain ⟨w3, hw3⟩ : ∃ z, z = w2.alloc (.cells #[.int .i64 s.next, .int .i64 s.seq, .int .i64 s.log, .int .i64 (s.files.length : Int)] 3) := ⟨_, rfl⟩
  rw [← hw3]
  have hb3 : Bel w2 w3 := by rw [hw3]; exact (Bel.refl w2).alloc _
  have HO3 := Lib.hid (show OwnG intEl13 w2.heap.size w3 (.slice (some ⟨w2.heap.size, 0, none⟩) 4 4) [s.next, s.seq, s.log, (s.files.length : Int)] by rw [hw3]; exact ownG_new intOk13 _ w2 _ _ rfl (Nat.le_refl _) (by simp only [List.length_cons, List.length_nil]; unfold maxLen; omega))
  have HB3 := Lib.hid hb3
  have HXX := Lib.hid (And.intro (cl13 hb3 y0) (cl13 hb3 y4))
  have H3 := Lib.hid (H2.out.bel hb3)
  have HS3 := Lib.hid (show w2.heap.size < w3.heap.size by rw [hw3]; simp)
  have HXB := Lib.hid (show w.heap.size < w2.heap.size from World.block_lt_of_cell? _ _ y0)
  clear hw3 hb3 y1 y2 y3
  go_loopw [5, 6] (fun nv iv x => ∃ i : Nat, i ≤ s.files.length ∧ iv = .int .i64 i ∧ OwnG intEl13 w2.heap.size x nv (s.next :: s.seq :: s.log :: (s.files.length : Int) :: pairsL (s.files.take i)) ∧ Bel w2 x) (fun _ iv _ => s.files.length - (intOf iv).toNat)
  case atStart => exact ⟨0, Nat.zero_le _, rfl, HO3.out, HB3.out⟩
  case round =>
   obtain ⟨i, hi, rfl, hown, hw⟩ := hrel
   have HW := Lib.hid hw
   have HOWN := Lib.hid hown
   obtain ⟨np, nc, rfl⟩ := ownG_len hown
   have z0 := cl13 hw y0
   have z4 := cl13 hw y4
   clear hown
   by_cases hil : i < s.files.length
   ·obtain ⟨a, B, O, sp, rfl, ha, r0, r1⟩ := H2.out i hil
    have hii : (i : Int) < (s.files.length : Int) := by omega
    have HPT := Lib.hid (pairs_take hil)
    have hpl : (pairsL (s.files.take i)).length = 2 * i := by rw [pairsL_len, List.length_take]; omega
    have HLN := Lib.hid hpl
    generalize s.files[i].n = pn at *
    generalize s.files[i].l = pl at *
    have q0 := cl13 hw r0
    have q1 := cl13 hw r1
    have HQ := Lib.hid (And.intro r0 r1)
    clear r0 r1
    obtain ⟨N0, hN0⟩ : ∃ N0, N0 = s.next :: s.seq :: s.log :: (s.files.length : Int) :: pairsL (s.files.take i) := ⟨_, rfl⟩
    have hN0l : N0.length = 2 * i + 4 := by rw [hN0]; simp only [List.length_cons]; omega
    have HN0 := Lib.hid hN0
    rw [← hN0] at HOWN
    rw [← hN0]
    clear hw hpl hN0
    have HN0L := Lib.hid hN0l
    clear hN0l
    go_wp2_with (fail)
    refine wp_region_held_drew (S := fun z => z.cell? ⟨w.heap.size, 0, none⟩ = some (.slice (some a) s.files.length c) ∧ z.cell? ⟨B, O, sp⟩ = some (.int .i64 pn) ∧ z.cell? ⟨B, O + 1, none⟩ = some (.int .i64 pl)) (by kernel_rfl) ⟨z0, q0, q1⟩ (fun hHeld => ?_)
    refine tq ⟨some 30, .move (.tmp 5), 52, "ref.go:50", #[], none⟩ ?_ 0 rfl ?_ ?_;rotate_left;·(intros;go_simp<;>with_reducible rfl)
    try simp only[Act.put,sqA,sqB,sqC]
    refine tq ⟨some 31, .fieldAddr 28 (.tmp 1) 0, 0, "ref.go:50", #[], none⟩ ?_ 1 rfl ?_ ?_;rotate_left;·(intros;go_simp<;>with_reducible rfl)
    try simp only[Act.put,sqA,sqB,sqC]
    refine tq ⟨some 32, .load 26 (.tmp 31), 26, "ref.go:50", #[⟨1, .data⟩], none⟩ ?_ 2 rfl ?_ ?_;rotate_left;·(intros;go_simp<;>with_reducible rfl)
    try simp only[Act.put,sqA,sqB,sqC]
    refine tq ⟨some 33, .move (.tmp 6), 3, "ref.go:50", #[], none⟩ ?_ 3 rfl ?_ ?_;rotate_left;·(intros;go_simp<;>with_reducible rfl)
    try simp only[Act.put,sqA,sqB,sqC]
    refine tq ⟨some 34, .indexAddr 26 (.tmp 32) (.tmp 33), 0, "ref.go:50", #[⟨2, .data⟩, ⟨3, .data⟩], none⟩ ?_ 4 rfl ?_ ?_;rotate_left;·(intros;go_simp<;>with_reducible rfl)
    try simp only[Act.put,sqA,sqB,sqC]
    refine tq ⟨some 35, .fieldAddr 96 (.tmp 34) 0, 0, "ref.go:50", #[⟨4, .data⟩], none⟩ ?_ 5 rfl ?_ ?_;rotate_left;·(intros;go_simp<;>with_reducible rfl)
    try simp only[Act.put,sqA,sqB,sqC]
    refine tq ⟨some 36, .load 3 (.tmp 35), 3, "ref.go:50", #[⟨5, .data⟩], none⟩ ?_ 6 rfl ?_ ?_;rotate_left;·(intros;go_simp<;>with_reducible rfl)
    try simp only[Act.put,sqA,sqB,sqC]
    refine tq ⟨some 37, .fieldAddr 28 (.tmp 1) 0, 0, "ref.go:50", #[], none⟩ ?_ 7 rfl ?_ ?_;rotate_left;·(intros;go_simp<;>with_reducible rfl)
    try simp only[Act.put,sqA,sqB,sqC]
    refine tq ⟨some 38, .load 26 (.tmp 37), 26, "ref.go:50", #[⟨7, .data⟩], none⟩ ?_ 8 rfl ?_ ?_;rotate_left;·(intros;go_simp<;>with_reducible rfl)
    try simp only[Act.put,sqA,sqB,sqC]
    refine tq ⟨some 39, .move (.tmp 6), 3, "ref.go:50", #[], none⟩ ?_ 9 rfl ?_ ?_;rotate_left;·(intros;go_simp<;>with_reducible rfl)
    try simp only[Act.put,sqA,sqB,sqC]
    refine tq ⟨some 40, .indexAddr 26 (.tmp 38) (.tmp 39), 0, "ref.go:50", #[⟨8, .data⟩, ⟨9, .data⟩], none⟩ ?_ 10 rfl ?_ ?_;rotate_left;·(intros;go_simp<;>with_reducible rfl)
    try simp only[Act.put,sqA,sqB,sqC]
    refine tq ⟨some 41, .fieldAddr 96 (.tmp 40) 1, 0, "ref.go:50", #[⟨10, .data⟩], none⟩ ?_ 11 rfl ?_ ?_;rotate_left;·(intros;go_simp<;>with_reducible rfl)
    try simp only[Act.put,sqA,sqB,sqC]
    refine tq ⟨some 42, .load 3 (.tmp 41), 3, "ref.go:50", #[⟨11, .data⟩], none⟩ ?_ 12 rfl ?_ ?_;rotate_left;·(intros;go_simp<;>with_reducible rfl)
    try simp only[Act.put,sqA,sqB,sqC]
    refine wpAnyH_ready (rs := [13]) (by kernel_rfl) (by simp) ?_
    refine ar1 ⟨some 43, .buildSlice 52 2 #[(0, .tmp 36), (1, .tmp 42)], 52, "ref.go:50", #[⟨6, .data⟩, ⟨12, .data⟩], none⟩ rfl (fun K hK => ?_)
    go_simp
    obtain ⟨YL, hYLe⟩ : ∃ n, n = wr.heap.size := ⟨_, rfl⟩
    obtain ⟨x3, hx3⟩ : ∃ x, x = (wr.alloc (.cells #[.int .i64 pn, .int .i64 pl] 3)).drew := ⟨_, rfl⟩
    have HLL := Lib.hid (show x3.heap[YL]? = some (.cells #[.int .i64 pn, .int .i64 pl] 3) by rw [hx3, hYLe]; exact heap_alloc_new wr _)
    have hbl : Bel wr x3 := by rw [hx3]; exact ((Bel.refl wr).alloc _).drew
    refine hK.out _ _ (by rw [← hx3]; exact ⟨cl13 hbl z0, cl13 hbl q0, cl13 hbl q1⟩) (fun hHeld => ?_);clear hK K;try simp only[Act.put,sqA,sqB,sqC]
    rw [← hx3, ← hYLe]
    have HB4 := Lib.hid (HW.out.trans hbl)
    have HOX := Lib.hid (HOWN.out.bel hbl)
    have HZ4 := Lib.hid (cl13 hbl z4)
    have d0 := cl13 hbl z0
    have d1 := cl13 hbl q0
    have d2 := cl13 hbl q1
    clear hx3 hYLe hbl z0 z4 q0 q1 hHeld
    refine wpAnyH_ready (rs := [14]) (by kernel_rfl) (by simp) ?_
    refine ar1 ⟨some 44, .call ⟨.builtin .append, #[.tmp 30, .tmp 43], #[52, 52]⟩, 52, "ref.go:50", #[⟨0, .data⟩, ⟨13, .data⟩], none⟩ rfl (fun K hK => ?_)
    refine step_append_seg intOk13 rfl (.tmp 30) (.tmp 43) rfl rfl HOX.out [pn, pl] rfl (src_at13 [pn, pl] HLL.out rfl rfl) (by have := HN0L.out; simp only [List.length_cons, List.length_nil]; unfold maxLen; omega) (by have := HN0L.out; simp only [List.length_cons, List.length_nil]; omega) (HB4.out.size) ?_
    intro v8 w8 ho8 hk8 hv8
    have HBW := Lib.hid (show Bel w2 w8 from (show Below w2.heap.size w2 w8 from Below.trans HB4.out hv8))
    have HO8 := Lib.hid ho8
    obtain ⟨p8, cap8, rfl⟩ := ownG_len ho8
    clear ho8 hk8 hv8
    refine hK.out _ _ ⟨cl13 HBW.out y0, cl13 HBW.out HQ.out.1, cl13 HBW.out HQ.out.2⟩ (fun hHeld => ?_);clear hK K;try simp only[Act.put,sqA,sqB,sqC]
    refine tq ⟨some 5, .assign (.tmp 44), 52, "ref.go:50", #[⟨14, .data⟩, ⟨14, .chain⟩, ⟨0, .phase⟩, ⟨1, .phase⟩, ⟨2, .phase⟩, ⟨3, .phase⟩, ⟨4, .phase⟩, ⟨5, .phase⟩, ⟨6, .phase⟩, ⟨7, .phase⟩, ⟨8, .phase⟩, ⟨9, .phase⟩, ⟨10, .phase⟩, ⟨11, .phase⟩, ⟨12, .phase⟩, ⟨13, .phase⟩, ⟨14, .phase⟩], none⟩ ?_ 15 rfl ?_ ?_;rotate_left;·(intros;go_simp<;>with_reducible rfl)
    try simp only[Act.put,sqA,sqB,sqC]
    refine wpAnyH_done (by kernel_rfl) ?_ _
    clear hHeld d0 d1 d2
    go_wp2_with (fail)
    go_roundw
    case rel =>
     have e : N0 ++ [pn, pl] = s.next :: s.seq :: s.log :: (s.files.length : Int) :: pairsL (s.files.take (i + 1)) := by rw [HN0.out, HPT.out]; rfl
     exact ⟨i + 1, hil, by go_num, by rw [← e]; have h := HO8.out; rw [List.length_append] at h; exact h, HBW.out⟩
    case measure => simp [intOf]; omega
   ·obtain rfl : i = s.files.length := by omega
    have hii : ¬ (s.files.length : Int) < (s.files.length : Int) := by omega
    have HN0 := Lib.hid (show s.next :: s.seq :: s.log :: (s.files.length : Int) :: pairsL (s.files.take s.files.length) = numsM s by rw [List.take_length]; rfl)
    have hnl : (s.next :: s.seq :: s.log :: (s.files.length : Int) :: pairsL (s.files.take s.files.length)).length = 4 + 2 * s.files.length := by rw [List.take_length]; simp only [List.length_cons, pairsL_len]; omega
    rw [HN0.out] at HOWN hnl
    rw [HN0.out]
    obtain ⟨N, hN⟩ : ∃ N, N = numsM s := ⟨_, rfl⟩
    have HN := Lib.hid hN
    rw [← hN] at HOWN HNI hnl
    rw [← hN]
    have HNL := Lib.hid hnl
    clear hw hnl hN HN0
    have hnl2 : N.length ≤ 84 := by have := HNL.out; omega
    go_wp2_with (fail)
    go_loopw [7, 8] (fun tv iv x => ∃ (k : Nat) (S : ByteArray), k ≤ N.length ∧ iv = .int .i64 k ∧ tv = .string S ∧ S.data.toList = putsL (N.take k) ∧ S.size ≤ 9 * k ∧ Bel wr x) (fun _ iv _ => N.length - (intOf iv).toNat)
    case atStart => exact ⟨0, ⟨#[]⟩, Nat.zero_le _, rfl, rfl, rfl, Nat.le_refl 0, Bel.refl wr⟩
    case round =>
     obtain ⟨k, S, hk, rfl, rfl, hS, hSz, hb⟩ := hrel
     have HS := Lib.hid hS
     have HB := Lib.hid hb
     have z4b := cl13 hb z4
     clear hS hb
     by_cases hkl : k < N.length
     ·obtain ⟨g, ncap, hv, hcell⟩ := ints_own13 (HOWN.out.bel HB.out) hkl
      simp only [Value.slice.injEq, true_and] at hv
      obtain ⟨rfl, rfl⟩ := hv
      have hNk := HNI.out N[k] (List.getElem_mem hkl)
      have HPT := Lib.hid (puts_take hkl)
      have hkk : (k : Int) < (N.length : Int) := by omega
      generalize N[k] = n at *
      obtain ⟨m, rfl⟩ : ∃ m : Nat, n = (m : Int) := ⟨n.toNat, by omega⟩
      have hwr : IntKind.u64.wrap (m : Int) = (m : Int) := by rw [wrap_u64]; omega
      rw [Int.toNat_natCast] at HPT
      have hpl := putL_len m
      have hz9 := szN_le m
      have hpz := str_len (putL m)
      rw [hpl] at hpz
      go_wp2_with (fail)
      refine (rput_any m _ (by omega)).mono ?_
      rintro e w5 ⟨rfl, hb5⟩
      have HB5 := Lib.hid (HB.out.trans hb5); clear hb5
      go_wp2_with (fail)
      go_roundw
      case rel => exact ⟨k + 1, S ++ ⟨(putL m).toArray⟩, hkl, by go_num, rfl, by rw [HPT.out]; simp [HS.out], by rw [ByteArray.size_append, hpz]; omega, HB5.out⟩
      case measure => simp [intOf]; omega
     ·obtain rfl : k = N.length := by omega
      have hkk : ¬ (N.length : Int) < (N.length : Int) := by omega
      have HV2 := Lib.hid (show Value.tuple #[.string (S ++ s.mt), .int .i64 0] = packV s by
       rw [HV.out]
       have h1 := HS.out
       rw [List.take_length, HN.out] at h1
       have : (S ++ s.mt) = ⟨(encM s).toArray⟩ := by
        apply ByteArray.ext
        apply Array.ext'
        simp [encM, h1]
       rw [this])
      go_wp2_with (fail)
      go_ret2
      exact ⟨by rw [← HV2.out]; rfl, HB2.out.trans (HW.out.trans HB.out)⟩
set_option maxRecDepth 100000

def plElR : El PL := ⟨96, 26, 2, fun p => [.int .i64 p.n, .int .i64 p.l]⟩
theorem plOkR : ElOk plElR 16 := ⟨fun _ => rfl, fun a u hu => by simp [plElR] at hu; rcases hu with rfl | rfl <;> rfl, by kernel_rfl, ⟨.agg #[.int .i64 0, .int .i64 0], by kernel_rfl, rfl⟩, by decide⟩
theorem pls_ownR {B : Nat} {w : World} {p : Option Addr} {n c : Nat} {l : List PL} (h : OwnG plElR B w (.slice p n c) l) : PlsAt w p l := fun i hi => by
 obtain ⟨g, cap, hv, _, _, _, hc⟩ := ownG_cells plOkR h (by intro e; rw [e] at hi; simp at hi)
 simp only [Value.slice.injEq] at hv
 refine ⟨⟨g, 0, none⟩, g, i * 2, none, hv.1, by cases i <;> simp [Addr.add], ?_, ?_⟩
 ·exact hc i l[i] (List.getElem?_eq_getElem hi) 0 _ rfl
 ·exact hc i l[i] (List.getElem?_eq_getElem hi) 1 _ rfl
set_option maxHeartbeats 8000000 in
theorem runpack13_any (s : ByteArray) (w : World) (hs : s.size ≤ 1000000) :
  Calls Tryz.prog 14 #[.string s] w fun e y => ∃ p c, e = .returned (.tuple #[.agg #[.slice p (unpSt s.data.toList).files.length c, .int .i64 (unpSt s.data.toList).next, .int .i64 (unpSt s.data.toList).seq, .int .i64 (unpSt s.data.toList).log, .string (unpSt s.data.toList).mt], .int .i64 (unpEr s.data.toList)]) ∧
   OwnG plElR w.heap.size y (.slice p (unpSt s.data.toList).files.length c) (unpSt s.data.toList).files ∧ Bel w y := by
 obtain ⟨t, ht⟩ : ∃ t, t = s.data.toList := ⟨_, rfl⟩
 rw [← ht]
 have HT := Lib.hid ht
 have hss : t.length = s.size := by rw [ht]; rfl
 have HSS := Lib.hid hss
 clear ht hss
 have HNO := Lib.hid (show unpackM t = none → unpSt t = zeroM ∧ unpEr t = 8 from unp_none)
 go_enter Tryz.func14, Tryz.ntmps14
 go_wp2_with (fail)
 have HA0 := Lib.hid (show readA t = none → unpackM t = none from fun h => by unfold unpackM; rw [readM_A, h]; rfl)
 obtain ⟨w1, hw1⟩ : ∃ z, z = w.alloc (.cells #[.slice none 0 0, .int .i64 0, .int .i64 0, .int .i64 0, .string ⟨#[]⟩] 28) := ⟨_, rfl⟩
 rw [← hw1]
 have HB1 := Lib.hid (show Bel w w1 by rw [hw1]; exact (Bel.refl w).alloc _)
 have HRK := Lib.hid (show w1.heap[w.heap.size]? = some (.cells #[.slice none 0 0, .int .i64 0, .int .i64 0, .int .i64 0, .string ⟨#[]⟩] 28 (0, 0)) by rw [hw1]; exact tnew13 w _ _)
 have HS1 := Lib.hid (show w.heap.size < w1.heap.size by rw [hw1]; simp)
 clear hw1
 go_loopw [4, 5, 6, 7] (fun nv sv mv iv x => ∃ (i many : Nat) (N : List Int) (R : ByteArray), iv = .int .i64 i ∧ mv = .int .i64 many ∧ sv = .string R ∧ RdInv t i many N R.data.toList ∧ R.size ≤ t.length ∧ OwnG intEl13 w1.heap.size x nv N ∧ Bel w1 x) (fun _ _ mv iv _ => 100 - (intOf iv).toNat)
 case atStart => exact ⟨0, 4, [], s, rfl, rfl, rfl, by rw [← HT.out]; exact rd_start t, by rw [HSS.out]; exact Nat.le_refl _, OwnG.nil _ _ _, Bel.refl w1⟩
 case round =>
  obtain ⟨i, many, N, R, rfl, rfl, rfl, hinv, hRz, hown, hw⟩ := hrel
  have HI := Lib.hid hinv
  have hm84 := hinv.bounds
  have HW := Lib.hid hw
  have HO := Lib.hid hown
  have HNL := Lib.hid hinv.1
  obtain ⟨np, nc, rfl⟩ := ownG_len hown
  have hts := HSS.out
  clear hinv hw hown
  by_cases him : i < many
  ·have hii : (i : Int) < (many : Int) := by omega
   obtain ⟨v, l', ok, hT⟩ : ∃ v l' ok, takeL R.data.toList = (v, l', ok) := ⟨_, _, _, rfl⟩
   have HTK := Lib.hid (show takeV R.data.toList = .tuple #[.int .u64 (v : Nat), .string ⟨l'.toArray⟩, .bool ok] by unfold takeV; rw [hT])
   have HF := Lib.hid (fun (hc : ¬ (ok = true ∧ v ≤ 1099511627776)) => HNO.out (HA0.out (rd_fail HI.out him (by rw [hT]; exact hc))))
   have HSTEP := Lib.hid (fun (hc : ok = true ∧ v ≤ 1099511627776) => (by have := rd_step HI.out him (by rw [hT]; exact hc); rw [hT] at this; exact this : RdInv t (i + 1) (if i = 3 then 4 + 2 * min v 40 else many) (N ++ [(v : Int)]) l'))
   have HRL := Lib.hid (show l'.length ≤ R.size by have := take_rest R.data.toList; rw [hT] at this; exact this)
   have hv64 : v < 18446744073709551616 := by have := take_lt R.data.toList; rw [hT] at this; exact this
   clear hT
   go_wp2_with (fail)
   refine (rtake_any R _ (by omega)).mono ?_
   rintro e w2 ⟨rfl, hb2⟩
   rw [HTK.out]
   have HW2 := Lib.hid (HW.out.trans hb2)
   have HO2 := Lib.hid (HO.out.bel hb2)
   have hk := (Below.block HW2.out w.heap.size HS1.out).trans HRK.out
   have r0 : w2.cell? ⟨w.heap.size, 0, none⟩ = some (.slice none 0 0) := by simp [World.cell?, hk]
   have r1 : w2.cell? ⟨w.heap.size, 1, none⟩ = some (.int .i64 0) := by simp [World.cell?, hk]
   have r2 : w2.cell? ⟨w.heap.size, 2, none⟩ = some (.int .i64 0) := by simp [World.cell?, hk]
   have r3 : w2.cell? ⟨w.heap.size, 3, none⟩ = some (.int .i64 0) := by simp [World.cell?, hk]
   have r4 : w2.cell? ⟨w.heap.size, 4, none⟩ = some (.string ⟨#[]⟩) := by simp [World.cell?, hk]
   have f0 : w2.frozen? ⟨w.heap.size, 0, none⟩ = false := by simp [World.frozen?, hk]
   have f1 : w2.frozen? ⟨w.heap.size, 1, none⟩ = false := by simp [World.frozen?, hk]
   have f2 : w2.frozen? ⟨w.heap.size, 2, none⟩ = false := by simp [World.frozen?, hk]
   have f3 : w2.frozen? ⟨w.heap.size, 3, none⟩ = false := by simp [World.frozen?, hk]
   have f4 : w2.frozen? ⟨w.heap.size, 4, none⟩ = false := by simp [World.frozen?, hk]
   clear hb2 hk
   cases hok : ok with
   | false =>
    have HR := Lib.hid (HF.out (by rw [hok]; simp))
    clear hok
    go_wp2_with (fail)
    refine bodyPost_ret (v := .tuple #[.agg #[.slice none 0 0, .int .i64 0, .int .i64 0, .int .i64 0, .string ⟨#[]⟩], .int .i64 8]) (by simp [results, Tryz.results14, go_sem, r0, r1, r2, r3, r4, f0, f1, f2, f3, f4]) rfl ⟨none, 0, by rw [HR.out.1, HR.out.2]; rfl, by rw [HR.out.1]; exact OwnG.nil _ _ _, ?_⟩
    repeat' first | exact HB1.out.trans HW2.out | refine Bel.setCell ?_ (by simp) _ | refine Bel.drewN ?_ _
   | true =>
    by_cases hvb : v ≤ 1099511627776
    ·have hgt : ¬ (1099511627776 : Int) < (v : Int) := by omega
     have hwv : IntKind.i64.wrap (v : Int) = (v : Int) := by rw [IntKind.wrap_i64]; omega
     have HST := Lib.hid (HSTEP.out ⟨hok, hvb⟩)
     have hlz := str_len l'
     have HLZ := Lib.hid hlz
     subst hok
     clear r0 r1 r2 r3 r4 f0 f1 f2 f3 f4 hlz HF HSTEP
     go_wp2_with (at_builtin; refine stop_here ?_)
     refine go_on ?_
     refine append_glit (L := N) intOk13 rfl _ _ rfl rfl HO2.out _ _ _ [(v : Int)] rfl rfl rfl (by have := HNL.out; simp only [List.length_cons, List.length_nil]; unfold maxLen; omega) (by have := HNL.out; simp only [List.length_cons, List.length_nil]; omega) HW2.out.size (Or.inl rfl) ?_
     intro v3 w3 hown3 hb3 hz3
     obtain ⟨p3, c3, rfl⟩ := ownG_len hown3
     have HO3 := Lib.hid hown3
     have HW3 := Lib.hid (HW2.out.trans_below hb3)
     have HN3 := Lib.hid (show (N ++ [(v : Int)]).length = N.length + 1 by simp)
     clear hown3 hb3 hz3
     obtain ⟨N3, hN3⟩ : ∃ N3, N3 = N ++ [(v : Int)] := ⟨_, rfl⟩
     rw [← hN3] at HO3 HST HN3 ⊢
     clear hN3
     by_cases h3 : i = 3
     ·subst h3
      obtain ⟨m, hm⟩ : ∃ m, m = min v 40 := ⟨_, rfl⟩
      have hm40 : m ≤ 40 := by omega
      rw [if_pos rfl, ← hm] at HST
      have hmi : (if (40 : Int) < (v : Int) then (40 : Int) else (v : Int)) = (m : Int) := by split <;> omega
      have hmin : min (v : Int) 40 = (m : Int) := by omega
      have hw2m : IntKind.i64.wrap (2 * (m : Int)) = 2 * (m : Int) := by rw [IntKind.wrap_i64]; omega
      have hw4m : IntKind.i64.wrap (4 + 2 * (m : Int)) = 4 + 2 * (m : Int) := by rw [IntKind.wrap_i64]; omega
      clear hm
      go_wp2_with (fail)
      go_roundw
      case rel => exact ⟨4, 4 + 2 * m, N3, ⟨l'.toArray⟩, by go_num, by go_num, rfl, by rw [str_list]; exact HST.out, by rw [HLZ.out]; have := HRL.out; omega, HO3.out, HW3.out⟩
      case measure => simp [intOf]
     ·have h3i : ¬ (i : Int) = 3 := by omega
      rw [if_neg h3] at HST
      go_wp2_with (fail)
      go_roundw
      case rel => exact ⟨i + 1, many, N3, ⟨l'.toArray⟩, by go_num, rfl, rfl, by rw [str_list]; exact HST.out, by rw [HLZ.out]; have := HRL.out; omega, HO3.out, HW3.out⟩
      case measure => simp [intOf]; omega
    ·have hgt : (1099511627776 : Int) < (v : Int) := by omega
     have HR := Lib.hid (HF.out (fun h => hvb h.2))
     subst hok
     go_wp2_with (fail)
     refine bodyPost_ret (v := .tuple #[.agg #[.slice none 0 0, .int .i64 0, .int .i64 0, .int .i64 0, .string ⟨#[]⟩], .int .i64 8]) (by simp [results, Tryz.results14, go_sem, r0, r1, r2, r3, r4, f0, f1, f2, f3, f4]) rfl ⟨none, 0, by rw [HR.out.1, HR.out.2]; rfl, by rw [HR.out.1]; exact OwnG.nil _ _ _, ?_⟩
     repeat' first | exact HB1.out.trans HW2.out | refine Bel.setCell ?_ (by simp) _ | refine Bel.drewN ?_ _
  ·have hii : ¬ (i : Int) < (many : Int) := by omega
   obtain ⟨hNl, ⟨m, hm, hm40⟩, hA⟩ := rd_end HI.out him
   have HUN := Lib.hid (show unpackM t = if rightM (toMS N R.data.toList) = true ∧ encM (toMS N R.data.toList) = t then some (toMS N R.data.toList) else none by
    unfold unpackM; rw [readM_A, hA]; rfl)
   obtain ⟨g, ncap, hv, _, _, _, hcell⟩ := ownG_cells intOk13 HO.out (by intro e; rw [e] at hNl; simp at hNl; omega)
   simp only [Value.slice.injEq, true_and] at hv
   obtain ⟨rfl, rfl⟩ := hv
   obtain ⟨n0, n1, n2, n3, N', hN⟩ : ∃ n0 n1 n2 n3 N', N = n0 :: n1 :: n2 :: n3 :: N' := by
    match N, hNl with
    | n0 :: n1 :: n2 :: n3 :: N', _ => exact ⟨n0, n1, n2, n3, N', rfl⟩
    | [_, _, _], h => simp at h; omega
    | [_, _], h => simp at h; omega
    | [_], h => simp at h; omega
    | [], h => simp at h; omega
   have c0 : wr.cell? ⟨g, 0, none⟩ = some (.int .i64 n0) := hcell 0 n0 (by rw [hN]; rfl) 0 _ rfl
   have c1 : wr.cell? ⟨g, 1, none⟩ = some (.int .i64 n1) := hcell 1 n1 (by rw [hN]; rfl) 0 _ rfl
   have c2 : wr.cell? ⟨g, 2, none⟩ = some (.int .i64 n2) := hcell 2 n2 (by rw [hN]; rfl) 0 _ rfl
   have HGW := Lib.hid (show ∀ k, (Value.slice (some ⟨g, 0, none⟩) N.length nc).ownBlock = some k → k < wr.heap.size from fun k hk => (HO.out.lt k hk).2)
   have hl0 : 0 < N.length := by omega
   have hl1 : (1 : Int) < (N.length : Int) := by omega
   have hl2 : (2 : Int) < (N.length : Int) := by omega
   have HN := Lib.hid hN
   have HNLE := Lib.hid (show N.length = 4 + 2 * m by omega)
   clear hA hcell hN hNl
   go_wp2_with (fail)
   refine wp_region_held_drew (S := fun z => z.cell? ⟨g, 0, none⟩ = some (.int .i64 n0) ∧ z.cell? ⟨g, 1, none⟩ = some (.int .i64 n1) ∧ z.cell? ⟨g, 2, none⟩ = some (.int .i64 n2)) (by kernel_rfl) ⟨c0, c1, c2⟩ (fun hHeld => ?_)
   refine tq ⟨some 47, .move (.tmp 4), 52, "ref.go:75", #[], none⟩ ?_ 0 rfl ?_ ?_;rotate_left;·(intros;go_simp<;>with_reducible rfl)
   try simp only[Act.put,sqA,sqB,sqC]
   refine tq ⟨some 48, .indexAddr 52 (.tmp 47) (.const (.int .i64 0)), 0, "ref.go:75", #[⟨0, .data⟩], none⟩ ?_ 1 rfl ?_ ?_;rotate_left;·(intros;go_simp<;>with_reducible rfl)
   try simp only[Act.put,sqA,sqB,sqC]
   refine tq ⟨some 49, .load 3 (.tmp 48), 3, "ref.go:75", #[⟨1, .data⟩], none⟩ ?_ 2 rfl ?_ ?_;rotate_left;·(intros;go_simp<;>with_reducible rfl)
   try simp only[Act.put,sqA,sqB,sqC]
   refine tq ⟨some 50, .move (.tmp 4), 52, "ref.go:75", #[], none⟩ ?_ 3 rfl ?_ ?_;rotate_left;·(intros;go_simp<;>with_reducible rfl)
   try simp only[Act.put,sqA,sqB,sqC]
   refine tq ⟨some 51, .indexAddr 52 (.tmp 50) (.const (.int .i64 1)), 0, "ref.go:75", #[⟨3, .data⟩], none⟩ ?_ 4 rfl ?_ ?_;rotate_left;·(intros;go_simp<;>with_reducible rfl)
   try simp only[Act.put,sqA,sqB,sqC]
   refine tq ⟨some 52, .load 3 (.tmp 51), 3, "ref.go:75", #[⟨4, .data⟩], none⟩ ?_ 5 rfl ?_ ?_;rotate_left;·(intros;go_simp<;>with_reducible rfl)
   try simp only[Act.put,sqA,sqB,sqC]
   refine tq ⟨some 53, .move (.tmp 4), 52, "ref.go:75", #[], none⟩ ?_ 6 rfl ?_ ?_;rotate_left;·(intros;go_simp<;>with_reducible rfl)
   try simp only[Act.put,sqA,sqB,sqC]
   refine tq ⟨some 54, .indexAddr 52 (.tmp 53) (.const (.int .i64 2)), 0, "ref.go:75", #[⟨6, .data⟩], none⟩ ?_ 7 rfl ?_ ?_;rotate_left;·(intros;go_simp<;>with_reducible rfl)
   try simp only[Act.put,sqA,sqB,sqC]
   refine tq ⟨some 55, .load 3 (.tmp 54), 3, "ref.go:75", #[⟨7, .data⟩], none⟩ ?_ 8 rfl ?_ ?_;rotate_left;·(intros;go_simp<;>with_reducible rfl)
   try simp only[Act.put,sqA,sqB,sqC]
   refine tq ⟨some 56, .move (.tmp 5), 9, "ref.go:75", #[], none⟩ ?_ 9 rfl ?_ ?_;rotate_left;·(intros;go_simp<;>with_reducible rfl)
   try simp only[Act.put,sqA,sqB,sqC]
   refine tq ⟨some 57, .build 28 #[(1, .tmp 49), (2, .tmp 52), (3, .tmp 55), (4, .tmp 56)], 28, "ref.go:75", #[⟨2, .data⟩, ⟨5, .data⟩, ⟨8, .data⟩, ⟨9, .data⟩], none⟩ ?_ 10 rfl ?_ ?_;rotate_left;·(intros;go_simp<;>with_reducible rfl)
   try simp only[Act.put,sqA,sqB,sqC]
   refine wpAnyH_ready (rs := [11]) (by kernel_rfl) (by simp) ?_
   refine ar1 ⟨some 11, .alloc 28, 0, "ref.go:75", #[], none⟩ rfl (fun K hK => ?_)
   go_simp
   obtain ⟨X, hX⟩ : ∃ X, X = wr.heap.size := ⟨_, rfl⟩
   obtain ⟨x2, hx2⟩ : ∃ x, x = (wr.alloc (.cells #[.slice none 0 0, .int .i64 0, .int .i64 0, .int .i64 0, .string ⟨#[]⟩] 28)).drew := ⟨_, rfl⟩
   have hkX : x2.heap[X]? = some (.cells #[.slice none 0 0, .int .i64 0, .int .i64 0, .int .i64 0, .string ⟨#[]⟩] 28 (0, 0)) := by rw [hx2, hX]; exact heap_alloc_new wr _
   have hb2 : Bel wr x2 := by rw [hx2]; exact ((Bel.refl wr).alloc _).drew
   have hs2 : x2.heap.size = X + 1 := by rw [hx2, hX]; simp
   refine hK.out _ _ (by rw [← hx2]; exact ⟨cl13 hb2 c0, cl13 hb2 c1, cl13 hb2 c2⟩) (fun hHeld => ?_);clear hK K;try simp only[Act.put,sqA,sqB,sqC]
   rw [← hx2, ← hX]
   have HKX := Lib.hid hkX
   have HBX := Lib.hid hb2
   have HSX := Lib.hid hs2
   have HX := Lib.hid hX
   have r0 : x2.cell? ⟨X, 0, none⟩ = some (.slice none 0 0) := by simp [World.cell?, hkX]
   have r1 : x2.cell? ⟨X, 1, none⟩ = some (.int .i64 0) := by simp [World.cell?, hkX]
   have r2 : x2.cell? ⟨X, 2, none⟩ = some (.int .i64 0) := by simp [World.cell?, hkX]
   have r3 : x2.cell? ⟨X, 3, none⟩ = some (.int .i64 0) := by simp [World.cell?, hkX]
   have r4 : x2.cell? ⟨X, 4, none⟩ = some (.string ⟨#[]⟩) := by simp [World.cell?, hkX]
   have f0 : x2.frozen? ⟨X, 0, none⟩ = false := by simp [World.frozen?, hkX]
   have f1 : x2.frozen? ⟨X, 1, none⟩ = false := by simp [World.frozen?, hkX]
   have f2 : x2.frozen? ⟨X, 2, none⟩ = false := by simp [World.frozen?, hkX]
   have f3 : x2.frozen? ⟨X, 3, none⟩ = false := by simp [World.frozen?, hkX]
   have f4 : x2.frozen? ⟨X, 4, none⟩ = false := by simp [World.frozen?, hkX]
   have HC := Lib.hid (And.intro c0 (And.intro c1 c2))
   clear hx2 hkX hb2 hs2 hX c0 c1 c2
   refine wpAnyH_ready (rs := [12]) (by kernel_rfl) (by simp) ?_
   refine ar1 ⟨none, .store 28 (.tmp 11) (.tmp 57), 0, "ref.go:75", #[⟨11, .data⟩, ⟨10, .data⟩, ⟨0, .phase⟩, ⟨1, .phase⟩, ⟨2, .phase⟩, ⟨3, .phase⟩, ⟨4, .phase⟩, ⟨5, .phase⟩, ⟨6, .phase⟩, ⟨7, .phase⟩, ⟨8, .phase⟩, ⟨9, .phase⟩, ⟨10, .phase⟩, ⟨11, .phase⟩], none⟩ rfl (fun K hK => ?_)
   go_simp
   obtain ⟨x3, hx3⟩ : ∃ x, x = (((((x2.setCell ⟨X, 0, none⟩ (.slice none 0 0)).setCell ⟨X, 1, none⟩ (.int .i64 n0)).setCell ⟨X, 2, none⟩ (.int .i64 n1)).setCell ⟨X, 3, none⟩ (.int .i64 n2)).setCell ⟨X, 4, none⟩ (.string R)) := ⟨_, rfl⟩
   have hk3 : x3.heap[X]? = some (.cells #[.slice none 0 0, .int .i64 n0, .int .i64 n1, .int .i64 n2, .string R] 28 (0, 0)) := by rw [hx3]; exact set5 HKX.out
   have hb3 : Bel wr x3 := by rw [hx3]; exact keep_bel1 keep5 HBX.out (by rw [HX.out]; exact Nat.le_refl _)
   have hs3 : x3.heap.size = X + 1 := by rw [hx3]; simp [World.setCell, HSX.out]
   refine hK.out _ _ (by rw [← hx3]; exact ⟨cl13 hb3 HC.out.1, cl13 hb3 HC.out.2.1, cl13 hb3 HC.out.2.2⟩) (fun hHeld => ?_);clear hK K;try simp only[Act.put,sqA,sqB,sqC]
   rw [← hx3]
   refine wpAnyH_done (by kernel_rfl) ?_ _
   have HK3 := Lib.hid hk3
   have HW3 := Lib.hid (HW.out.trans hb3)
   have HS3 := Lib.hid hs3
   have HO3 := Lib.hid (HO.out.bel hb3)
   clear hx3 hk3 hb3 hs3 r0 r1 r2 r3 r4 f0 f1 f2 f3 f4
   have HST := Lib.hid (show toMS N R.data.toList = ⟨placesL N', n0, n1, n2, R⟩ by rw [HN.out]; unfold toMS; rw [ba_list]; rfl)
   have hN'l : N'.length = 2 * m := by have h1 := HNLE.out; rw [HN.out] at h1; simp only [List.length_cons] at h1; omega
   have HGX := Lib.hid (show g < X by have := HGW.out g rfl; have := HX.out; omega)
   have HN'L := Lib.hid hN'l
   clear hN'l
   go_wp2_with (fail)
   go_loopw [12] (fun iv y => ∃ (j : Nat) (pv : Value), iv = .int .i64 ((4 + 2 * j : Nat) : Int) ∧ j ≤ m ∧ OwnG plElR (X + 1) y pv (placesL (N'.take (2 * j))) ∧ y.heap[X]? = some (.cells #[pv, .int .i64 n0, .int .i64 n1, .int .i64 n2, .string R] 28 (0, 0)) ∧ Keep [X] x3 y) (fun iv _ => 100 - (intOf iv).toNat)
   case atStart => exact ⟨0, .slice none 0 0, rfl, Nat.zero_le _, OwnG.nil _ _ _, HK3.out, Keep.refl _ _⟩
   case round =>
    obtain ⟨j, pv, rfl, hjm, hown, hbx, hkp⟩ := hrel
    have HOW := Lib.hid hown
    have HBX := Lib.hid hbx
    have HKP := Lib.hid hkp
    have hsz := hkp.size
    have HZ := Lib.hid (show X + 1 ≤ wr.heap.size by rw [← HS3.out]; exact hsz)
    obtain ⟨pp, pc, rfl⟩ := ownG_len hown
    obtain ⟨k, hk⟩ : ∃ k, k = 4 + 2 * j := ⟨_, rfl⟩
    rw [← hk]
    have HKE := Lib.hid hk
    clear hown hbx hkp hsz hk
    by_cases hlt : j < m
    ·have hkl : k + 1 < N.length := by have := HNLE.out; have := HKE.out; omega
     have hki : (k : Int) + 1 < (N.length : Int) := by omega
     have hki2 : (k : Int) < (N.length : Int) := by omega
     have hkw : IntKind.i64.wrap ((k : Int) + 1) = (k : Int) + 1 := by rw [IntKind.wrap_i64]; have := HNLE.out; have := HKE.out; omega
     have hk0 : (0 : Int) ≤ (k : Int) + 1 := by omega
     have hok : OwnG intEl13 w1.heap.size wr (.slice (some ⟨g, 0, none⟩) N.length nc) N := HO3.out.keep HKP.out (fun b hb hm => by
      rw [List.mem_singleton] at hm
      simp only [Value.ownBlock, Option.some.injEq] at hb
      have := HGX.out; omega)
     obtain ⟨g', ncap', hv', _, _, _, hcell⟩ := ownG_cells intOk13 hok (by intro e; rw [e] at hkl; simp at hkl)
     simp only [Value.slice.injEq, Option.some.injEq, Addr.mk.injEq, and_true, true_and] at hv'
     obtain ⟨rfl, rfl⟩ := hv'
     have q0 : wr.cell? ⟨g, k, none⟩ = some (.int .i64 N[k]) := by
      have := hcell k N[k] (List.getElem?_eq_getElem (by omega)) 0 _ rfl
      rwa [show k * intEl13.n + 0 = k from by show k * 1 + 0 = k; omega] at this
     have q1 : wr.cell? ⟨g, k + 1, none⟩ = some (.int .i64 N[k + 1]) := by
      have := hcell (k + 1) N[k + 1] (List.getElem?_eq_getElem hkl) 0 _ rfl
      rwa [show (k + 1) * intEl13.n + 0 = k + 1 from by show (k + 1) * 1 + 0 = k + 1; omega] at this
     have HPL := Lib.hid (show placesL (N'.take (2 * (j + 1))) = placesL (N'.take (2 * j)) ++ [⟨N[k], N[k + 1]⟩] by
      have h1 := HNLE.out
      have h2 := HN'L.out
      have h3 := HKE.out
      have e1 : N[k] = N'[2 * j]'(by omega) := by
       have : N[k]? = N'[2 * j]? := by rw [HN.out, HKE.out, show 4 + 2 * j = 2 * j + 1 + 1 + 1 + 1 by omega]; simp
       rw [List.getElem?_eq_getElem (by omega), List.getElem?_eq_getElem (by omega)] at this
       simpa using this
      have e2 : N[k + 1] = N'[2 * j + 1]'(by omega) := by
       have : N[k + 1]? = N'[2 * j + 1]? := by rw [HN.out, HKE.out, show 4 + 2 * j + 1 = 2 * j + 1 + 1 + 1 + 1 + 1 by omega]; simp
       rw [List.getElem?_eq_getElem (by omega), List.getElem?_eq_getElem (by omega)] at this
       simpa using this
      rw [places_take j N' (by omega), e1, e2])
     have hpl : (placesL (N'.take (2 * j))).length = j := by rw [places_len, List.length_take, HN'L.out]; omega
     generalize N[k] = n at *
     generalize N[k + 1] = l at *
     obtain ⟨P0, hP0⟩ : ∃ P0, P0 = placesL (N'.take (2 * j)) := ⟨_, rfl⟩
     rw [← hP0] at HOW HBX HPL hpl
     have HPL0 := Lib.hid hpl
     have c0 := box_cell HBX.out 0
     have g0 := box_frozen HBX.out 0
     have hgx := HGX.out
     have HS := Lib.hid (show ∀ z, Below (X + 1) wr z → ((z.cell? ⟨X, 0, none⟩ = some (.slice pp P0.length pc) ∧ z.frozen? ⟨X, 0, none⟩ = false) ∧ (z.cell? ⟨g, k, none⟩ = some (.int .i64 n) ∧ z.cell? ⟨g, k + 1, none⟩ = some (.int .i64 l)) ∧ Below (X + 1) wr z) from fun z hz =>
      ⟨⟨(hz.cell (by show X < X + 1; omega)).trans c0, (hz.frozen (by show X < X + 1; omega)).trans g0⟩, ⟨(hz.cell (by show g < X + 1; omega)).trans q0, (hz.cell (by show g < X + 1; omega)).trans q1⟩, hz⟩)
     have HB0 := Lib.hid (show Below (X + 1) wr wr.drew from (Below.refl _ _).drew)
     clear hok hcell hP0 hpl q0 q1 c0 g0 hgx
     go_wp2_with (fail)
     refine region_L 15 (S := fun z => (z.cell? ⟨X, 0, none⟩ = some (.slice pp P0.length pc) ∧ z.frozen? ⟨X, 0, none⟩ = false) ∧ (z.cell? ⟨g, k, none⟩ = some (.int .i64 n) ∧ z.cell? ⟨g, k + 1, none⟩ = some (.int .i64 l)) ∧ Below (X + 1) wr z) (by kernel_rfl) (HS.out _ HB0.out) (fun hHeld => ?_)
     refine AnyL.tk (oi := ⟨some 65, .fieldAddr 28 (.tmp 11) 0, 0, "ref.go:77", #[], none⟩) (v := ?_) 0 rfl ?_ ?_;rotate_left;·(intros;go_simp<;>with_reducible rfl)
     try simp only[Act.put,sqA,sqB,sqC]
     refine AnyL.tk (oi := ⟨some 66, .load 26 (.tmp 65), 26, "ref.go:77", #[⟨0, .data⟩], none⟩) (v := ?_) 1 rfl ?_ ?_;rotate_left;·(intros;go_simp<;>with_reducible rfl)
     try simp only[Act.put,sqA,sqB,sqC]
     refine AnyL.tk (oi := ⟨some 67, .move (.tmp 4), 52, "ref.go:77", #[], none⟩) (v := ?_) 2 rfl ?_ ?_;rotate_left;·(intros;go_simp<;>with_reducible rfl)
     try simp only[Act.put,sqA,sqB,sqC]
     refine AnyL.tk (oi := ⟨some 68, .move (.tmp 12), 3, "ref.go:77", #[], none⟩) (v := ?_) 3 rfl ?_ ?_;rotate_left;·(intros;go_simp<;>with_reducible rfl)
     try simp only[Act.put,sqA,sqB,sqC]
     refine AnyL.tk (oi := ⟨some 69, .indexAddr 52 (.tmp 67) (.tmp 68), 0, "ref.go:77", #[⟨2, .data⟩, ⟨3, .data⟩], none⟩) (v := ?_) 4 rfl ?_ ?_;rotate_left;·(intros;go_simp<;>with_reducible rfl)
     try simp only[Act.put,sqA,sqB,sqC]
     refine AnyL.tk (oi := ⟨some 70, .load 3 (.tmp 69), 3, "ref.go:77", #[⟨4, .data⟩], none⟩) (v := ?_) 5 rfl ?_ ?_;rotate_left;·(intros;go_simp<;>with_reducible rfl)
     try simp only[Act.put,sqA,sqB,sqC]
     refine AnyL.tk (oi := ⟨some 71, .move (.tmp 4), 52, "ref.go:77", #[], none⟩) (v := ?_) 6 rfl ?_ ?_;rotate_left;·(intros;go_simp<;>with_reducible rfl)
     try simp only[Act.put,sqA,sqB,sqC]
     refine AnyL.tk (oi := ⟨some 72, .move (.tmp 12), 3, "ref.go:77", #[], none⟩) (v := ?_) 7 rfl ?_ ?_;rotate_left;·(intros;go_simp<;>with_reducible rfl)
     try simp only[Act.put,sqA,sqB,sqC]
     refine AnyL.tk (oi := ⟨some 73, .binOp .add 3 (.tmp 72) (.const (.int .i64 1)) 3, 3, "ref.go:77", #[⟨7, .data⟩], none⟩) (v := ?_) 8 rfl ?_ ?_;rotate_left;·(intros;go_simp<;>with_reducible rfl)
     try simp only[Act.put,sqA,sqB,sqC]
     refine AnyL.tk (oi := ⟨some 74, .indexAddr 52 (.tmp 71) (.tmp 73), 0, "ref.go:77", #[⟨6, .data⟩, ⟨8, .data⟩], none⟩) (v := ?_) 9 rfl ?_ ?_;rotate_left;·(intros;go_simp<;>with_reducible rfl)
     try simp only[Act.put,sqA,sqB,sqC]
     refine AnyL.tk (oi := ⟨some 75, .load 3 (.tmp 74), 3, "ref.go:77", #[⟨9, .data⟩], none⟩) (v := ?_) 10 rfl ?_ ?_;rotate_left;·(intros;go_simp<;>with_reducible rfl)
     try simp only[Act.put,sqA,sqB,sqC]
     refine AnyL.tk (oi := ⟨some 76, .build 96 #[(0, .tmp 70), (1, .tmp 75)], 96, "ref.go:77", #[⟨5, .data⟩, ⟨10, .data⟩], none⟩) (v := ?_) 11 rfl ?_ ?_;rotate_left;·(intros;go_simp<;>with_reducible rfl)
     try simp only[Act.put,sqA,sqB,sqC]
     clear hHeld
     refine AnyL.ready (rs := [12]) (by kernel_rfl) (by simp) ?_
     refine (AllL.cons (o := ⟨some 77, .buildSlice 26 1 #[(0, .tmp 76)], 26, "ref.go:77", #[⟨11, .data⟩], none⟩) rfl (fun K hK => ?_) AllL.nil)
     go_simp
     obtain ⟨YL, hYL⟩ : ∃ n, n = wr.heap.size := ⟨_, rfl⟩
     obtain ⟨x4, hx4⟩ : ∃ x, x = (wr.alloc (.cells #[.int .i64 n, .int .i64 l] 96)).drew := ⟨_, rfl⟩
     have HLL := Lib.hid (show x4.heap[YL]? = some (.cells #[.int .i64 n, .int .i64 l] 96 (0, 0)) by rw [hx4, hYL]; exact heap_alloc_new wr _)
     have hb4 : Bel wr x4 := by rw [hx4]; exact ((Bel.refl wr).alloc _).drew
     have HB4 := Lib.hid (show Below (X + 1) wr x4 by rw [hx4]; exact ((Below.refl _ _).alloc HZ.out _).drew)
     have HOW4 := Lib.hid (HOW.out.bel hb4)
     have HZ4 := Lib.hid (show X + 1 ≤ x4.heap.size from Nat.le_trans HZ.out hb4.size)
     refine hK.out _ _ (fun _ => by rw [← hx4]; exact HS.out _ HB4.out) ?_
     clear hK K
     try simp only[Act.put,sqA,sqB,sqC]
     rw [← hx4, ← hYL]
     clear hx4 hYL hb4
     refine AnyL.ready (rs := [13]) (by kernel_rfl) (by simp) ?_
     refine (AllL.cons (o := ⟨some 78, .call ⟨.builtin .append, #[.tmp 66, .tmp 77], #[26, 26]⟩, 26, "ref.go:77", #[⟨1, .data⟩, ⟨12, .data⟩], none⟩) rfl (fun K hK => ?_) AllL.nil)
     refine step_append_seg plOkR rfl (.tmp 66) (.tmp 77) rfl rfl HOW4.out [(⟨n, l⟩ : PL)] rfl (src_at13 [(⟨n, l⟩ : PL)] HLL.out rfl rfl) (by have := HPL0.out; simp only [List.length_cons, List.length_nil]; unfold maxLen; omega) (by have := HPL0.out; simp only [List.length_cons, List.length_nil]; omega) HZ4.out ?_
     intro v8 w8 ho8 hg8 hb8
     have HB8 := Lib.hid (show Below (X + 1) wr w8 from Below.trans HB4.out hb8)
     have HO8 := Lib.hid ho8
     obtain ⟨p8, cap8, rfl⟩ := ownG_len ho8
     clear ho8 hg8 hb8
     refine hK.out _ _ (fun _ => HS.out _ HB8.out) ?_
     clear hK K
     try simp only[Act.put,sqA,sqB,sqC]
     have hHeld := HS.out _ HB8.out
     refine AnyL.tk (oi := ⟨some 79, .fieldAddr 28 (.tmp 11) 0, 0, "ref.go:77", #[⟨0, .phase⟩, ⟨1, .phase⟩, ⟨2, .phase⟩, ⟨3, .phase⟩, ⟨4, .phase⟩, ⟨5, .phase⟩, ⟨6, .phase⟩, ⟨7, .phase⟩, ⟨8, .phase⟩, ⟨9, .phase⟩, ⟨10, .phase⟩, ⟨11, .phase⟩, ⟨12, .phase⟩, ⟨13, .phase⟩], none⟩) (v := ?_) 14 rfl ?_ ?_;rotate_left;·(intros;go_simp<;>with_reducible rfl)
     try simp only[Act.put,sqA,sqB,sqC]
     clear hHeld
     refine AnyL.ready (rs := [15]) (by kernel_rfl) (by simp) ?_
     refine (AllL.cons (o := ⟨none, .store 26 (.tmp 79) (.tmp 78), 0, "ref.go:77", #[⟨14, .data⟩, ⟨13, .data⟩, ⟨13, .chain⟩, ⟨0, .phase⟩, ⟨1, .phase⟩, ⟨2, .phase⟩, ⟨3, .phase⟩, ⟨4, .phase⟩, ⟨5, .phase⟩, ⟨6, .phase⟩, ⟨7, .phase⟩, ⟨8, .phase⟩, ⟨9, .phase⟩, ⟨10, .phase⟩, ⟨11, .phase⟩, ⟨12, .phase⟩, ⟨13, .phase⟩], none⟩) rfl (fun K hK => ?_) AllL.nil)
     obtain ⟨⟨s0, s1⟩, -⟩ := HS.out _ HB8.out
     go_simp
     refine hK.out _ _ (fun h => absurd rfl h) ?_
     clear hK K
     try simp only[Act.put,sqA,sqB,sqC]
     refine AnyL.done (by kernel_rfl) ?_ _
     clear s0 s1
     have HBX8 := Lib.hid ((HB8.out.block X (by omega)).trans HBX.out)
     have HPL8 := Lib.hid (show (P0 ++ [(⟨n, l⟩ : PL)]).length = P0.length + 1 by simp)
     have hw2 : IntKind.i64.wrap ((k : Int) + 2) = (k : Int) + 2 := by rw [IntKind.wrap_i64]; have := HNLE.out; have := HKE.out; omega
     go_wp2_with (fail)
     go_roundw
     case rel =>
      refine ⟨j + 1, .slice p8 (P0.length + 1) cap8, ?_, hlt, ?_, blk_set HBX8.out 0 _, (keep_below HKP.out HB8.out (by rw [HS3.out]; exact Nat.le_refl _)).setCell (p := ⟨X, 0, none⟩) (Or.inl (by simp)) _⟩
      ·have := HKE.out
       congr 1; omega
      ·rw [HPL.out]
       have h := HO8.out
       rw [HPL8.out] at h
       exact h.setCell (p := ⟨X, 0, none⟩) (by show X < X + 1; omega) _
     case measure => have := HKE.out; have := HNLE.out; simp [intOf]; omega
    ·obtain rfl : j = m := by omega
     have hki : ¬ (k : Int) + 1 < (N.length : Int) := by have := HNLE.out; have := HKE.out; omega
     have hkw : IntKind.i64.wrap ((k : Int) + 1) = (k : Int) + 1 := by rw [IntKind.wrap_i64]; have := HNLE.out; have := HKE.out; omega
     have htk : N'.take (2 * j) = N' := List.take_of_length_le (by rw [HN'L.out]; exact Nat.le_refl _)
     rw [htk] at HOW HBX
     obtain ⟨st, hst⟩ : ∃ st : MS, st = ⟨placesL N', n0, n1, n2, R⟩ := ⟨_, rfl⟩
     have HSTE := Lib.hid (HST.out.trans hst.symm)
     have HSTD := Lib.hid hst
     have hpl : (placesL N').length = j := by rw [places_len, HN'L.out]; omega
     have HPK := Lib.hid (show ∀ z, Bel wr z → Calls Tryz.prog 12 #[.agg #[.slice pp (placesL N').length pc, .int .i64 n0, .int .i64 n1, .int .i64 n2, .string R]] z fun r w' => r = .returned (packV st) ∧ Bel z w' from fun z hz => by
      have := rpack13_any pp pc st z (by rw [hst]; exact (pls_ownR HOW.out).bel hz) (by rw [hst]; show (placesL N').length ≤ _; omega) (by rw [hst]; show R.size ≤ _; omega)
      rw [hst] at this ⊢
      exact this)
     obtain ⟨FF, hFF⟩ : ∃ FF, FF = (placesL N').length := ⟨_, rfl⟩
     have HFF := Lib.hid hFF
     rw [← hFF] at HPK HOW HBX
     obtain ⟨⟨c0, c1, c2, c3, c4⟩, -⟩ := box5 HBX.out
     have HRW := Lib.hid (show wr.heap[w.heap.size]? = some (.cells #[.slice none 0 0, .int .i64 0, .int .i64 0, .int .i64 0, .string ⟨#[]⟩] 28 (0, 0)) from
      (HKP.out.block _ (Nat.lt_of_lt_of_le HS1.out HW3.out.size) (by rw [List.mem_singleton]; have h1 := HS1.out; have h2 := HW.out.size; have h3 := HX.out; omega)).trans (box_bel HRK.out HW3.out))
     have HBB := Lib.hid (show Bel w wr from keep_bel1 HKP.out (HB1.out.trans HW3.out) (by have h1 := HS1.out; have h2 := HW.out.size; have h3 := HX.out; omega))
     clear htk hpl hst hFF
     go_wp2_with (fail)
     refine (HPK.out _ (Bel.refl _)).mono ?_
     rintro e w5 ⟨rfl, hb5⟩
     have HB5 := Lib.hid (HBB.out.trans hb5)
     obtain ⟨⟨r0, r1, r2, r3, r4⟩, f0, f1, f2, f3, f4⟩ := box5 (box_bel HRW.out hb5)
     obtain ⟨⟨d0, d1, d2, d3, d4⟩, -⟩ := box5 (box_bel HBX.out hb5)
     have HO5 := Lib.hid (HOW.out.bel hb5)
     clear hb5 c0 c1 c2 c3 c4
     cases hr : rightM st with
     | false =>
      have HPV := Lib.hid (pack_no hr)
      have HR := Lib.hid (HNO.out (by rw [HUN.out, HSTE.out, if_neg (by rw [hr]; simp)]))
      clear hr
      rw [HPV.out]
      go_wp2_with (fail)
      refine bodyPost_ret (v := .tuple #[.agg #[.slice none 0 0, .int .i64 0, .int .i64 0, .int .i64 0, .string ⟨#[]⟩], .int .i64 8]) (by simp [results, Tryz.results14, go_sem, r0, r1, r2, r3, r4, f0, f1, f2, f3, f4]) rfl ⟨none, 0, by rw [HR.out.1, HR.out.2]; rfl, by rw [HR.out.1]; exact OwnG.nil _ _ _, ?_⟩
      repeat' first | exact HB5.out | refine Bel.setCell ?_ (by simp) _ | refine Bel.drewN ?_ _
     | true =>
      have HPV := Lib.hid (pack_yes hr)
      rw [HPV.out]
      by_cases het : encM st = t
      ·have HR := Lib.hid (show unpackM t = some st by rw [HUN.out, HSTE.out, if_pos ⟨hr, het⟩])
       have HR2 := Lib.hid (unp_some HR.out)
       have hse : (⟨(encM st).toArray⟩ : ByteArray) = s := by rw [het, HT.out, ba_list]
       clear hr het
       rw [hse]
       go_wp2_with (fail)
       have hlow : w.heap.size < X + 1 := by have h1 := HS1.out; have h2 := HW.out.size; have h3 := HX.out; omega
       refine bodyPost_ret (v := .tuple #[.agg #[.slice pp FF pc, .int .i64 n0, .int .i64 n1, .int .i64 n2, .string R], .int .i64 0]) (by simp [results, Tryz.results14, go_sem, r0, r1, r2, r3, r4, f0, f1, f2, f3, f4]) rfl ⟨pp, pc, by rw [HR2.out.1, HR2.out.2, HSTD.out, HFF.out], ?_, ?_⟩
       ·rw [HR2.out.1, HSTD.out]
        show OwnG plElR w.heap.size _ (.slice pp (placesL N').length pc) (placesL N')
        rw [← HFF.out]
        exact OwnG.low (B := X + 1) (((((HO5.out.setCell hlow _).setCell hlow _).setCell hlow _).setCell hlow _).setCell hlow _) (by omega)
       ·repeat' first | exact HB5.out | refine Bel.setCell ?_ (by simp) _ | refine Bel.drewN ?_ _
      ·have HR := Lib.hid (HNO.out (by rw [HUN.out, HSTE.out, if_neg (fun h => het h.2)]))
       have hse : ((encM st) == s.toList) = false := by
        rw [ByteArray.toList_eq, ← HT.out, beq_eq_false_iff_ne]; exact het
       clear hr het
       go_wp2_with (fail)
       refine bodyPost_ret (v := .tuple #[.agg #[.slice none 0 0, .int .i64 0, .int .i64 0, .int .i64 0, .string ⟨#[]⟩], .int .i64 8]) (by simp [results, Tryz.results14, go_sem, r0, r1, r2, r3, r4, f0, f1, f2, f3, f4]) rfl ⟨none, 0, by rw [HR.out.1, HR.out.2]; rfl, by rw [HR.out.1]; exact OwnG.nil _ _ _, ?_⟩
       repeat' first | exact HB5.out | refine Bel.setCell ?_ (by simp) _ | refine Bel.drewN ?_ _
set_option maxRecDepth 100000

def plElP : El PL := ⟨95, 22, 2, fun p => [.int .i64 p.n, .int .i64 p.l]⟩
theorem plOkP : ElOk plElP 16 := ⟨fun _ => rfl, fun a u hu => by simp [plElP] at hu; rcases hu with rfl | rfl <;> rfl, by kernel_rfl, ⟨.agg #[.int .i64 0, .int .i64 0], by kernel_rfl, rfl⟩, by decide⟩
theorem pls_ownP {B : Nat} {w : World} {p : Option Addr} {n c : Nat} {l : List PL} (h : OwnG plElP B w (.slice p n c) l) : PlsAt w p l := fun i hi => by
 obtain ⟨g, cap, hv, _, _, _, hc⟩ := ownG_cells plOkP h (by intro e; rw [e] at hi; simp at hi)
 simp only [Value.slice.injEq] at hv
 refine ⟨⟨g, 0, none⟩, g, i * 2, none, hv.1, by cases i <;> simp [Addr.add], ?_, ?_⟩
 ·exact hc i l[i] (List.getElem?_eq_getElem hi) 0 _ rfl
 ·exact hc i l[i] (List.getElem?_eq_getElem hi) 1 _ rfl
theorem two_ptrs {W : World} {B : Nat} {a b : Addr} {T : TypeId} (h : W.heap[B]? = some (.cells #[.pointer (some a), .pointer (some b)] T (0, 0))) : ∀ i (h : i < [a, b].length), ∃ q, some (⟨B, 0, none⟩ : Addr) = some q ∧ W.cell? (q.add i) = some (.pointer (some [a, b][i])) := fun i hi => by
 match i, hi with
 | 0, _ => exact ⟨_, rfl, box_cell h 0⟩
 | 1, _ => exact ⟨_, rfl, box_cell h 1⟩
theorem four_ptrs {W : World} {B : Nat} {a b c d : Addr} {T : TypeId} (h : W.heap[B]? = some (.cells #[.pointer (some a), .pointer (some b), .pointer (some c), .pointer (some d)] T (0, 0))) : ∀ i (h : i < [a, b, c, d].length), ∃ q, some (⟨B, 0, none⟩ : Addr) = some q ∧ W.cell? (q.add i) = some (.pointer (some [a, b, c, d][i])) := fun i hi => by
 match i, hi with
 | 0, _ => exact ⟨_, rfl, box_cell h 0⟩
 | 1, _ => exact ⟨_, rfl, box_cell h 1⟩
 | 2, _ => exact ⟨_, rfl, box_cell h 2⟩
 | 3, _ => exact ⟨_, rfl, box_cell h 3⟩
theorem bel_keep {w x y : World} {F : List Nat} (h : Bel w x) (hk : Keep F x y) (hF : ∀ k ∈ F, w.heap.size ≤ k) : Bel w y :=
 ((Keep.of_bel h F).trans hk (fun k hk => Or.inl hk)).bel hF
theorem alloc3 (w : World) (o1 o2 o3 o4 : Obj) : ((((w.alloc o1).alloc o2).alloc o3).alloc o4).heap.size = w.heap.size + 4 ∧ ((((w.alloc o1).alloc o2).alloc o3).alloc o4).heap[w.heap.size]? = some o1 ∧
  ((((w.alloc o1).alloc o2).alloc o3).alloc o4).heap[w.heap.size + 1]? = some o2 ∧ ((((w.alloc o1).alloc o2).alloc o3).alloc o4).heap[w.heap.size + 1 + 1]? = some o3 ∧ ((((w.alloc o1).alloc o2).alloc o3).alloc o4).heap[w.heap.size + 1 + 1 + 1]? = some o4 := by
 have h1 : (w.alloc o1).heap.size = w.heap.size + 1 := by simp
 have h2 : ((w.alloc o1).alloc o2).heap.size = w.heap.size + 2 := by simp
 have h3 : (((w.alloc o1).alloc o2).alloc o3).heap.size = w.heap.size + 3 := by simp
 have b (x : World) (o : Obj) (k : Nat) (hk : k < x.heap.size) : (x.alloc o).heap[k]? = x.heap[k]? := Below.block ((Bel.refl x).alloc o) k hk
 refine ⟨by simp, ?_, ?_, ?_, ?_⟩
 ·rw [b _ _ _ (by omega), b _ _ _ (by omega), b _ _ _ (by omega)]; exact heap_alloc_new w o1
 ·rw [b _ _ _ (by omega), b _ _ _ (by omega), ← h1]; exact heap_alloc_new _ o2
 ·rw [b _ _ _ (by omega), ← h2]; exact heap_alloc_new _ o3
 ·rw [← h3]; exact heap_alloc_new _ o4
set_option maxHeartbeats 8000000 in
theorem unpack13_any (s : ByteArray) (w : World) (hs : s.size ≤ 1000000) :
  Calls Tryz.prog 13 #[.string s] w fun e y => ∃ p c, e = .returned (.tuple #[.agg #[.slice p (unpSt s.data.toList).files.length c, .int .i64 (unpSt s.data.toList).next, .int .i64 (unpSt s.data.toList).seq, .int .i64 (unpSt s.data.toList).log, .string (unpSt s.data.toList).mt], .int .i64 (unpEr s.data.toList)]) ∧
   OwnG plElP w.heap.size y (.slice p (unpSt s.data.toList).files.length c) (unpSt s.data.toList).files ∧ Bel w y := by
 obtain ⟨t, ht⟩ : ∃ t, t = s.data.toList := ⟨_, rfl⟩
 rw [← ht]
 have HT := Lib.hid ht
 have hss : t.length = s.size := by rw [ht]; rfl
 have HSS := Lib.hid hss
 clear ht hss
 have HNO := Lib.hid (show unpackM t = none → unpSt t = zeroM ∧ unpEr t = 8 from unp_none)
 go_enter Tryz.func13, Tryz.ntmps13
 go_wp2_with (fail)
 obtain ⟨w4, hw4⟩ : ∃ z, z = ((((w.alloc (.cells #[.slice none 0 0, .int .i64 0, .int .i64 0, .int .i64 0, .string ⟨#[]⟩] 24)).alloc (.cells #[.slice none 0 0, .int .i64 0, .int .i64 0, .int .i64 0, .string ⟨#[]⟩] 24)).alloc (.cells #[.int .i64 0] 3)).alloc (.cells #[.pointer (some ⟨w.heap.size + 1, 1, none⟩), .pointer (some ⟨w.heap.size + 1, 2, none⟩), .pointer (some ⟨w.heap.size + 1, 3, none⟩), .pointer (some ⟨w.heap.size + 1 + 1, 0, none⟩)] 102)) := ⟨_, rfl⟩
 obtain ⟨hz4, k0, k1, k2, k3⟩ := alloc3 w (.cells #[.slice none 0 0, .int .i64 0, .int .i64 0, .int .i64 0, .string ⟨#[]⟩] 24) (.cells #[.slice none 0 0, .int .i64 0, .int .i64 0, .int .i64 0, .string ⟨#[]⟩] 24) (.cells #[.int .i64 0] 3) (.cells #[.pointer (some ⟨w.heap.size + 1, 1, none⟩), .pointer (some ⟨w.heap.size + 1, 2, none⟩), .pointer (some ⟨w.heap.size + 1, 3, none⟩), .pointer (some ⟨w.heap.size + 1 + 1, 0, none⟩)] 102)
 rw [← hw4] at hz4 k0 k1 k2 k3
 have HB4 := Lib.hid (show Bel w w4 by rw [hw4]; exact ((((Bel.refl w).alloc _).alloc _).alloc _).alloc _)
 rw [← hw4]
 clear hw4
 obtain ⟨A, hA⟩ : ∃ A, A = w.heap.size + 1 := ⟨_, rfl⟩
 obtain ⟨Bm, hBm⟩ : ∃ B, B = A + 1 := ⟨_, rfl⟩
 obtain ⟨Q, hQ⟩ : ∃ Q, Q = Bm + 1 := ⟨_, rfl⟩
 rw [← hA] at k1 k2 k3
 rw [← hBm] at k2 k3
 rw [← hQ] at k3
 rw [← hA, ← hBm, ← hQ]
 have HA := Lib.hid hA
 have HBM := Lib.hid hBm
 have HQ := Lib.hid hQ
 have HZ4 := Lib.hid (show w4.heap.size = Q + 1 by rw [hz4, hQ, hBm, hA])
 have HR4 := Lib.hid k0
 have HA4 := Lib.hid k1
 have HM4 := Lib.hid k2
 have HPT := Lib.hid (four_ptrs k3)
 clear hz4 k0 k1 k2 k3 hA hBm hQ
 refine (taken_any s (some ⟨Q, 0, none⟩) 4 [⟨A, 1, none⟩, ⟨A, 2, none⟩, ⟨A, 3, none⟩, ⟨Bm, 0, none⟩] w4 HPT.out hs (by simp) (fun a ha => ?_) (fun a ha q hq => ?_)).mono ?_
 ·simp only [List.mem_cons, List.not_mem_nil, or_false] at ha
  rcases ha with rfl | rfl | rfl | rfl
  ·exact ⟨rfl, _, _, HA4.out, by simp⟩
  ·exact ⟨rfl, _, _, HA4.out, by simp⟩
  ·exact ⟨rfl, _, _, HA4.out, by simp⟩
  ·exact ⟨rfl, _, _, HM4.out, by simp⟩
 ·have h1 := HQ.out
  have h2 := HBM.out
  simp only [Option.some.injEq] at hq
  subst hq
  simp only [List.mem_cons, List.not_mem_nil, or_false] at ha
  rcases ha with rfl | rfl | rfl | rfl <;> (show Q ≠ _; simp only; omega)
 rw [← HT.out]
 rintro e w5 (⟨L4, m4, ht4, rfl, hm4, hb5⟩ | ⟨ht4, rfl, hk5⟩)
 rotate_left
 ·have HR := Lib.hid (HNO.out (prog_none (fun a b c d r h => by rw [show takeP 4 t = none from ht4] at h; cases h)))
  have hA := HA.out
  have hBm := HBM.out
  have HB5 := Lib.hid (bel_keep HB4.out hk5 (fun k hk => by simp at hk; omega))
  obtain ⟨⟨r0, r1, r2, r3, r4⟩, f0, f1, f2, f3, f4⟩ := box5 ((hk5.at HR4.out (by simp; omega)))
  clear hk5
  go_wp2_with (fail)
  refine bodyPost_ret (v := .tuple #[.agg #[.slice none 0 0, .int .i64 0, .int .i64 0, .int .i64 0, .string ⟨#[]⟩], .int .i64 8]) (by simp [results, Tryz.results13, go_sem, r0, r1, r2, r3, r4, f0, f1, f2, f3, f4]) rfl ⟨none, 0, by rw [HR.out.1, HR.out.2]; rfl, by rw [HR.out.1]; exact OwnG.nil _ _ _, ?_⟩
  repeat' first | exact HB5.out | refine Bel.setCell ?_ (by simp) _ | refine Bel.drewN ?_ _
 ·obtain ⟨na, nb, nc, nd, rfl⟩ : ∃ a b c d, L4 = [a, b, c, d] := by
   have h := (takeP_back _ _ _ _ ht4).1
   match L4, h with
   | [a, b, c, d], _ => exact ⟨a, b, c, d, rfl⟩
  have HT4 := Lib.hid (show takeP 4 t = some ([na, nb, nc, nd], m4) from ht4)
  have hA := HA.out
  have hBm := HBM.out
  have hQ := HQ.out
  have hb5' : Bel ((((w4.setCell ⟨A, 1, none⟩ (.int .i64 (w64 na))).setCell ⟨A, 2, none⟩ (.int .i64 (w64 nb))).setCell ⟨A, 3, none⟩ (.int .i64 (w64 nc))).setCell ⟨Bm, 0, none⟩ (.int .i64 (w64 nd))) w5 := hb5
  have hk5 : Keep [A, Bm] w4 w5 := (((((Keep.refl [A, Bm] w4).setCell (p := ⟨A, 1, none⟩) (Or.inl (by simp)) (.int .i64 (w64 na))).setCell (p := ⟨A, 2, none⟩) (Or.inl (by simp)) (.int .i64 (w64 nb))).setCell (p := ⟨A, 3, none⟩) (Or.inl (by simp)) (.int .i64 (w64 nc))).setCell (p := ⟨Bm, 0, none⟩) (Or.inl (by simp)) (.int .i64 (w64 nd))).then hb5'
  have kA : w5.heap[A]? = some (.cells #[.slice none 0 0, .int .i64 (w64 na), .int .i64 (w64 nb), .int .i64 (w64 nc), .string ⟨#[]⟩] 24 (0, 0)) :=
   box_bel (((keep_set _ Bm 0 _).at (blk_set (blk_set (blk_set HA4.out 1 _) 2 _) 3 _) (by simp; omega))) hb5'
  have kM : w5.heap[Bm]? = some (.cells #[.int .i64 (w64 nd)] 3 (0, 0)) :=
   box_bel (blk_set (((keep_set _ A 3 _).at ((keep_set _ A 2 _).at ((keep_set _ A 1 _).at HM4.out (by simp; omega)) (by simp; omega)) (by simp; omega))) 0 _) hb5'
  have kR := hk5.at HR4.out (by simp; omega)
  have HKR := Lib.hid kR
  have HKA := Lib.hid kA
  have HKM := Lib.hid kM
  have HB5 := Lib.hid (bel_keep HB4.out hk5 (fun k hk => by simp at hk; omega))
  have HZ5 := Lib.hid (show Q < w5.heap.size by have := hk5.size; rw [HZ4.out] at this; omega)
  have m0 := box_cell kM 0
  obtain ⟨⟨r0, r1, r2, r3, r4⟩, f0, f1, f2, f3, f4⟩ := box5 kR
  simp only [List.getElem?_toArray, List.getElem?_cons_zero] at m0
  have HMZ := Lib.hid (str_len m4)
  obtain ⟨D, hD⟩ : ∃ D, D = w64 nd := ⟨_, rfl⟩
  have HD := Lib.hid hD
  rw [← hD] at m0 HKM
  clear hb5 hb5' hk5 kA kM kR ht4 hA hBm hQ hD
  go_wp2_with (fail)
  refine (within_any D 0 40 _).mono ?_
  rintro e z ⟨rfl, rfl⟩
  by_cases hdd : 0 ≤ D ∧ D ≤ 40
  rotate_left
  ·have hb : betw D 0 40 = false := by
    unfold betw
    by_cases h : 0 ≤ D
    ·rw [decide_eq_false (show ¬ D ≤ 40 from fun h' => hdd ⟨h, h'⟩), Bool.and_false]
    ·rw [decide_eq_false h, Bool.false_and]
   have HR := Lib.hid (HNO.out (prog_none (fun a b c d r h hd => by
    rw [HT4.out] at h
    simp only [Option.some.injEq, Prod.mk.injEq, List.cons.injEq] at h
    obtain ⟨⟨-, -, -, rfl, -⟩, -⟩ := h
    exact absurd (HD.out ▸ hd) hdd)))
   rw [hb]
   go_wp2_with (fail)
   refine bodyPost_ret (v := .tuple #[.agg #[.slice none 0 0, .int .i64 0, .int .i64 0, .int .i64 0, .string ⟨#[]⟩], .int .i64 8]) (by simp [results, Tryz.results13, go_sem, r0, r1, r2, r3, r4, f0, f1, f2, f3, f4]) rfl ⟨none, 0, by rw [HR.out.1, HR.out.2]; rfl, by rw [HR.out.1]; exact OwnG.nil _ _ _, ?_⟩
   repeat' first | exact HB5.out | refine Bel.setCell ?_ (by simp) _ | refine Bel.drewN ?_ _
  ·have hb : betw D 0 40 = true := by unfold betw; simp [hdd]
   rw [hb]
   obtain ⟨many, hmany⟩ : ∃ m : Nat, D = (m : Int) := ⟨D.toNat, by omega⟩
   have hm40 : many ≤ 40 := by omega
   have HDM := Lib.hid (show w64 nd = (many : Int) from HD.out.symm.trans hmany)
   subst hmany
   clear r0 r1 r2 r3 r4 f0 f1 f2 f3 f4 hb
   go_wp2_with (fail)
   have HZA := Lib.hid (show w.heap.size < A ∧ A < z.heap.size by have h1 := HA.out; have h2 := HBM.out; have h3 := HQ.out; have h4 := HZ5.out; omega)
   go_loopw [6, 27] (fun sv iv x => ∃ (j : Nat) (R : ByteArray) (l : List Nat) (pv : Value), iv = .int .i64 j ∧ sv = .string R ∧ j ≤ many ∧ l.length = 2 * j ∧ R.size ≤ m4.length ∧ takeP (2 * many) m4 = (takeP (2 * (many - j)) R.data.toList).map (fun x => (l ++ x.1, x.2)) ∧ OwnG plElP z.heap.size x pv (placesL (l.map w64)) ∧
    x.heap[A]? = some (.cells #[pv, .int .i64 (w64 na), .int .i64 (w64 nb), .int .i64 (w64 nc), .string ⟨#[]⟩] 24 (0, 0)) ∧ Keep [A] z x) (fun _ iv _ => many - (intOf iv).toNat)
   case atStart => exact ⟨0, ⟨m4.toArray⟩, [], .slice none 0 0, rfl, rfl, Nat.zero_le _, rfl, by rw [HMZ.out]; exact Nat.le_refl _, by rw [str_list]; simp, OwnG.nil _ _ _, HKA.out, Keep.refl _ _⟩
   case round =>
    obtain ⟨j, R, l, pv, rfl, rfl, hj, hl, hRz, htk, hown, hka, hkp⟩ := hrel
    have HL := Lib.hid hl
    have HTK := Lib.hid htk
    have HOW := Lib.hid hown
    have HKA2 := Lib.hid hka
    have HKP := Lib.hid hkp
    have HKR2 := Lib.hid (hkp.at HKR.out (by rw [List.mem_singleton]; have := HZA.out.1; omega))
    have HBW := Lib.hid (bel_keep HB5.out hkp (fun k hk => by rw [List.mem_singleton] at hk; have := HZA.out.1; omega))
    have HZW := Lib.hid hkp.size
    have hts := HSS.out
    obtain ⟨pp, pc, rfl⟩ := ownG_len hown
    have hpl : (placesL (l.map w64)).length = j := by rw [places_len, List.length_map, hl]; omega
    have HPL := Lib.hid hpl
    clear hl htk hown hka hkp hpl
    by_cases hjm : j < many
    ·have hji : (j : Int) < (many : Int) := by omega
     go_wp2_with (fail)
     obtain ⟨C, hC⟩ : ∃ C, C = wr.heap.size := ⟨_, rfl⟩
     obtain ⟨x1, hx1⟩ : ∃ x, x = (wr.alloc (.cells #[.int .i64 0, .int .i64 0] 95)).alloc (.cells #[.pointer (some ⟨C, 0, none⟩), .pointer (some ⟨C, 1, none⟩)] 102) := ⟨_, rfl⟩
     have kC : x1.heap[C]? = some (.cells #[.int .i64 0, .int .i64 0] 95 (0, 0)) := by
      rw [hx1, hC]; exact (Below.block ((Bel.refl (wr.alloc _)).alloc _) wr.heap.size (by simp)).trans (heap_alloc_new wr _)
     have kP : x1.heap[C + 1]? = some (.cells #[.pointer (some ⟨C, 0, none⟩), .pointer (some ⟨C, 1, none⟩)] 102 (0, 0)) := by
      have e : (wr.alloc (.cells #[.int .i64 0, .int .i64 0] 95)).heap.size = C + 1 := by rw [hC]; simp
      rw [hx1, ← e]; exact heap_alloc_new _ _
     have HB1 := Lib.hid (show Bel wr x1 by rw [hx1]; exact ((Bel.refl wr).alloc _).alloc _)
     rw [← hC, ← hx1]
     have HC := Lib.hid hC
     have HKC := Lib.hid kC
     have HP2 := Lib.hid (two_ptrs kP)
     clear hC hx1 kC kP
     refine (taken_any R (some ⟨C + 1, 0, none⟩) 2 [⟨C, 0, none⟩, ⟨C, 1, none⟩] x1 HP2.out (by omega) (by simp) (fun a ha => ?_) (fun a ha q hq => ?_)).mono ?_
     ·simp only [List.mem_cons, List.not_mem_nil, or_false] at ha
      rcases ha with rfl | rfl
      ·exact ⟨rfl, _, _, HKC.out, by simp⟩
      ·exact ⟨rfl, _, _, HKC.out, by simp⟩
     ·simp only [Option.some.injEq] at hq
      subst hq
      simp only [List.mem_cons, List.not_mem_nil, or_false] at ha
      rcases ha with rfl | rfl <;> (show C + 1 ≠ C; omega)
     rintro e x2 (⟨L2, m2, ht2, rfl, hm2, hb2⟩ | ⟨ht2, rfl, hk2⟩)
     rotate_left
     ·have HR := Lib.hid (HNO.out (prog_none (fun a b c d r h hd L m h' => by
       exfalso
       rw [HT4.out] at h
       simp only [Option.some.injEq, Prod.mk.injEq, List.cons.injEq] at h
       obtain ⟨⟨-, -, -, rfl, -⟩, rfl⟩ := h
       rw [HDM.out, Int.toNat_natCast, HTK.out, show 2 * (many - j) = 2 + 2 * (many - j - 1) by omega, takeP_add, show takeP 2 R.data.toList = none from ht2] at h'
       cases h')))
      have HB2 := Lib.hid (bel_keep (HBW.out.trans HB1.out) hk2 (fun k hk => by simp at hk; have := HC.out; have := HBW.out.size; omega))
      obtain ⟨⟨r0, r1, r2, r3, r4⟩, f0, f1, f2, f3, f4⟩ := box5 (hk2.at (box_bel HKR2.out HB1.out) (by simp; have := HC.out; have := box_lt HKR2.out; omega))
      clear hk2
      go_wp2_with (fail)
      refine bodyPost_ret (v := .tuple #[.agg #[.slice none 0 0, .int .i64 0, .int .i64 0, .int .i64 0, .string ⟨#[]⟩], .int .i64 8]) (by simp [results, Tryz.results13, go_sem, r0, r1, r2, r3, r4, f0, f1, f2, f3, f4]) rfl ⟨none, 0, by rw [HR.out.1, HR.out.2]; rfl, by rw [HR.out.1]; exact OwnG.nil _ _ _, ?_⟩
      repeat' first | exact HB2.out | refine Bel.setCell ?_ (by simp) _ | refine Bel.drewN ?_ _
     ·obtain ⟨n1, n2, rfl⟩ : ∃ a b, L2 = [a, b] := by
       have h := (takeP_back _ _ _ _ ht2).1
       match L2, h with
       | [a, b], _ => exact ⟨a, b, rfl⟩
      have HSTEP := Lib.hid (show takeP (2 * many) m4 = (takeP (2 * (many - (j + 1))) m2).map (fun x => ((l ++ [n1, n2]) ++ x.1, x.2)) by
       rw [HTK.out, show 2 * (many - j) = 2 + 2 * (many - (j + 1)) by omega, takeP_add, show takeP 2 R.data.toList = some ([n1, n2], m2) from ht2]
       simp only
       cases takeP (2 * (many - (j + 1))) m2 with
       | none => rfl
       | some x => simp)
      have hb2' : Bel ((x1.setCell ⟨C, 0, none⟩ (.int .i64 (w64 n1))).setCell ⟨C, 1, none⟩ (.int .i64 (w64 n2))) x2 := hb2
      have hk2 : Keep [C] x1 x2 := (((Keep.refl [C] x1).setCell (p := ⟨C, 0, none⟩) (Or.inl (by simp)) (.int .i64 (w64 n1))).setCell (p := ⟨C, 1, none⟩) (Or.inl (by simp)) (.int .i64 (w64 n2))).then hb2'
      have HB2 := Lib.hid (show Bel wr x2 from bel_keep HB1.out hk2 (fun k hk => by rw [List.mem_singleton] at hk; have := HC.out; omega))
      have kC : x2.heap[C]? = some (.cells #[.int .i64 (w64 n1), .int .i64 (w64 n2)] 95 (0, 0)) := box_bel (blk_set (blk_set HKC.out 0 _) 1 _) hb2'
      have c0 := box_cell kC 0
      have c1 := box_cell kC 1
      have kA := box_bel HKA2.out HB2.out
      have a0 := box_cell kA 0
      simp only [List.getElem?_toArray, List.getElem?_cons_zero, List.getElem?_cons_succ] at c0 c1 a0
      have HKA3 := Lib.hid kA
      have HO2 := Lib.hid (HOW.out.bel HB2.out)
      have HMZ2 := Lib.hid (str_len m2)
      have HM2 := Lib.hid (show m2.length ≤ R.size from hm2)
      have HPLS := Lib.hid (show placesL ((l ++ [n1, n2]).map w64) = placesL (l.map w64) ++ [⟨w64 n1, w64 n2⟩] by
       have h1 := HL.out
       have e := places_take j ((l ++ [n1, n2]).map w64) (by simp; omega)
       rw [List.take_of_length_le (by simp; omega)] at e
       rw [e]
       have e1 : ((l ++ [n1, n2]).map w64).take (2 * j) = l.map w64 := by rw [List.map_append, List.take_left' (by rw [List.length_map, h1])]
       rw [e1]
       congr 2
       rw [PL.mk.injEq]
       constructor
       ·rw [List.getElem_map, List.getElem_append_right (by omega)]; simp [h1]
       ·rw [List.getElem_map, List.getElem_append_right (by omega)]; simp [h1])
      clear hb2 hb2' hk2 kC kA ht2 hm2
      go_wp2_with (at_builtin; refine stop_here ?_)
      refine go_on ?_
      obtain ⟨P0, hP0⟩ : ∃ P0, P0 = placesL (l.map w64) := ⟨_, rfl⟩
      rw [← hP0] at HO2 HPL HKA3 HPLS a0
      rw [← hP0]
      refine append_glit (L := P0) plOkP rfl _ _ rfl rfl HO2.out _ _ _ [(⟨w64 n1, w64 n2⟩ : PL)] rfl rfl rfl (by have := HPL.out; simp only [List.length_cons, List.length_nil]; unfold maxLen; omega) (by have := HPL.out; simp only [List.length_cons, List.length_nil]; omega) (Nat.le_trans HZW.out HB2.out.size) (Or.inl rfl) ?_
      intro v8 w8 ho8 hb8 hz8
      have HO8 := Lib.hid ho8
      obtain ⟨p8, c8, rfl⟩ := ownG_len ho8
      have HKA8 := Lib.hid ((hb8.block A HZA.out.2).trans HKA3.out)
      have HK8 := Lib.hid (show Keep [A] z w8 from keep_below (HKP.out.then HB2.out) hb8 (Nat.le_refl _))
      have HPL8 := Lib.hid (show (P0 ++ [(⟨w64 n1, w64 n2⟩ : PL)]).length = P0.length + 1 by simp)
      have s0 := box_cell HKA8.out 0
      have s1 := box_frozen HKA8.out 0
      simp only [List.getElem?_toArray, List.getElem?_cons_zero] at s0
      clear ho8 hb8 hz8 c0 c1 a0 hP0
      go_wp2_with (fail)
      go_roundw
      case rel =>
       refine ⟨j + 1, ⟨m2.toArray⟩, l ++ [n1, n2], .slice p8 (P0.length + 1) c8, by go_num, rfl, hjm, by rw [List.length_append, HL.out]; simp; omega, by rw [HMZ2.out]; have := HM2.out; omega, by rw [str_list]; exact HSTEP.out, ?_, blk_set HKA8.out 0 _, HK8.out.setCell (p := ⟨A, 0, none⟩) (Or.inl (by simp)) _⟩
       rw [HPLS.out]
       have h := HO8.out
       rw [HPL8.out] at h
       exact h.setCell (p := ⟨A, 0, none⟩) HZA.out.2 _
      case measure => simp [intOf]; omega
    ·obtain rfl : j = many := by omega
     have hji : ¬ (j : Int) < (j : Int) := by omega
     have HTK2 := Lib.hid (show takeP (2 * j) m4 = some (l, R.data.toList) by rw [HTK.out, Nat.sub_self]; simp [takeP])
     obtain ⟨st, hst⟩ : ∃ st : MS, st = ⟨placesL (l.map w64), w64 na, w64 nb, w64 nc, R⟩ := ⟨_, rfl⟩
     have HST := Lib.hid (show progX na nb nc l R.data.toList = st by rw [hst]; unfold progX; rw [ba_list])
     have HSTD := Lib.hid hst
     have HYES := Lib.hid (fun (h : rightM st = true) => unp_some (by rw [← HST.out] at h ⊢; exact prog_right HT4.out (by rw [HDM.out]; exact hdd) (by rw [HDM.out, Int.toNat_natCast]; exact HTK2.out) h : unpackM t = some st))
     have HNOT := Lib.hid (fun (h : rightM st = false) => HNO.out (prog_none (fun a b c d r h1 hd L m h2 => by
      rw [HT4.out] at h1
      simp only [Option.some.injEq, Prod.mk.injEq, List.cons.injEq] at h1
      obtain ⟨⟨rfl, rfl, rfl, rfl, -⟩, rfl⟩ := h1
      rw [HDM.out, Int.toNat_natCast, HTK2.out] at h2
      simp only [Option.some.injEq, Prod.mk.injEq] at h2
      obtain ⟨rfl, rfl⟩ := h2
      rw [HST.out]; exact h)))
     obtain ⟨⟨a0, a1, a2, a3, a4⟩, g0, g1, g2, g3, g4⟩ := box5 HKA2.out
     clear hst
     obtain ⟨FF, hFF⟩ : ∃ FF, FF = (placesL (l.map w64)).length := ⟨_, rfl⟩
     have HFF := Lib.hid hFF
     rw [← hFF] at HOW HKA2 a0
     have HRI := Lib.hid (show ∀ y, OwnG plElP z.heap.size y (.slice pp FF pc) (placesL (l.map w64)) → Calls Tryz.prog 15 #[.agg #[.slice pp FF pc, .int .i64 (w64 na), .int .i64 (w64 nb), .int .i64 (w64 nc), .string R]] y fun r w' => r = .returned (.bool (rightM st)) ∧ Bel y w' from fun y hy => by
      have h1 := HSTD.out
      have := right13_any pp pc st y (by rw [h1]; exact pls_ownP hy) (by rw [h1]; show (placesL (l.map w64)).length ≤ _; have := HPL.out; omega) (by rw [h1]; show R.size ≤ _; omega)
      rw [h1] at this ⊢
      rw [HFF.out]
      exact this)
     clear hFF
     go_wp2_with (fail)
     obtain ⟨x6, hx6⟩ : ∃ x, x = wr.setCell ⟨A, 4, none⟩ (.string R) := ⟨_, rfl⟩
     rw [← hx6]
     have HO6 := Lib.hid (show OwnG plElP z.heap.size x6 (.slice pp FF pc) (placesL (l.map w64)) by rw [hx6]; exact HOW.out.setCell (p := ⟨A, 4, none⟩) HZA.out.2 _)
     have HK6 := Lib.hid (show x6.heap[A]? = some (.cells #[.slice pp FF pc, .int .i64 (w64 na), .int .i64 (w64 nb), .int .i64 (w64 nc), .string R] 24 (0, 0)) by rw [hx6]; exact blk_set HKA2.out 4 _)
     have HB6 := Lib.hid (show Bel w x6 by rw [hx6]; exact HBW.out.setCell (p := ⟨A, 4, none⟩) (by show w.heap.size ≤ A; have := HZA.out; omega) _)
     have HR6 := Lib.hid (show x6.heap[w.heap.size]? = some (.cells #[.slice none 0 0, .int .i64 0, .int .i64 0, .int .i64 0, .string ⟨#[]⟩] 24 (0, 0)) by rw [hx6]; exact (keep_set wr A 4 _).at HKR2.out (by rw [List.mem_singleton]; have := HZA.out; omega))
     clear hx6 a0 a1 a2 a3 a4 g0 g1 g2 g3 g4
     refine (HRI.out x6 HO6.out).mono ?_
     rintro e x7 ⟨rfl, hb7⟩
     have HB7 := Lib.hid (HB6.out.trans hb7)
     have HO7 := Lib.hid (HO6.out.bel hb7)
     obtain ⟨⟨r0, r1, r2, r3, r4⟩, f0, f1, f2, f3, f4⟩ := box5 (box_bel HR6.out hb7)
     obtain ⟨⟨a0, a1, a2, a3, a4⟩, -⟩ := box5 (box_bel HK6.out hb7)
     clear hb7
     cases hr : rightM st with
     | false =>
      have HR := Lib.hid (HNOT.out hr)
      go_wp2_with (fail)
      refine bodyPost_ret (v := .tuple #[.agg #[.slice none 0 0, .int .i64 0, .int .i64 0, .int .i64 0, .string ⟨#[]⟩], .int .i64 8]) (by simp [results, Tryz.results13, go_sem, r0, r1, r2, r3, r4, f0, f1, f2, f3, f4]) rfl ⟨none, 0, by rw [HR.out.1, HR.out.2]; rfl, by rw [HR.out.1]; exact OwnG.nil _ _ _, ?_⟩
      repeat' first | exact HB7.out | refine Bel.setCell ?_ (by simp) _ | refine Bel.drewN ?_ _
     | true =>
      have HR := Lib.hid (HYES.out hr)
      have hlow : w.heap.size < z.heap.size := by have := HZA.out; omega
      go_wp2_with (fail)
      refine bodyPost_ret (v := .tuple #[.agg #[.slice pp FF pc, .int .i64 (w64 na), .int .i64 (w64 nb), .int .i64 (w64 nc), .string R], .int .i64 0]) (by simp [results, Tryz.results13, go_sem, r0, r1, r2, r3, r4, f0, f1, f2, f3, f4]) rfl ⟨pp, pc, by rw [HR.out.1, HR.out.2, HSTD.out, HFF.out], ?_, ?_⟩
      ·rw [HR.out.1, HSTD.out]
       show OwnG plElP w.heap.size _ (.slice pp (placesL (l.map w64)).length pc) (placesL (l.map w64))
       rw [← HFF.out]
       exact OwnG.low (B := z.heap.size) (((((HO7.out.setCell hlow _).setCell hlow _).setCell hlow _).setCell hlow _).setCell hlow _) (by omega)
      ·repeat' first | exact HB7.out | refine Bel.setCell ?_ (by simp) _ | refine Bel.drewN ?_ _
set_option maxRecDepth 100000

def Ints13 (w : World) (p : Option Addr) (L : List Int) : Prop := ∀ i (h : i < L.length), ∃ a, p = some a ∧ w.cell? (a.add i) = some (.int .i64 L[i])
theorem Ints13.bel {w x : World} {p : Option Addr} {L : List Int} (h : Ints13 w p L) (hb : Bel w x) : Ints13 x p L := by
 intro i hi
 obtain ⟨a, ha, hc⟩ := h i hi
 exact ⟨a, ha, cl13 hb hc⟩
theorem ints13_new {W : World} {B : Nat} {arr : Array Value} {T : TypeId} (L : List Int) (h : W.heap[B]? = some (.cells arr T (0, 0))) (harr : arr.toList = L.map (fun n => Value.int .i64 n)) : Ints13 W (some ⟨B, 0, none⟩) L := fun i hi => by
 refine ⟨_, rfl, ?_⟩
 have e : (⟨B, 0, none⟩ : Addr).add i = ⟨B, i, none⟩ := by cases i <;> simp [Addr.add]
 rw [e, box_cell h]
 have : arr.toList[i]? = some (.int .i64 L[i]) := by rw [harr, List.getElem?_map, List.getElem?_eq_getElem hi]; rfl
 simpa using this
def WrRel (L : List Int) (w : World) (i : Value) (x : World) : Prop := ∃ k : Nat, k ≤ L.length ∧ i = .int .i64 k ∧ BldW w.heap.size (putsL (L.take k)) x ∧ Bel w x
set_option maxHeartbeats 2000000 in
theorem written_any (p : Option Addr) (cap : Nat) (L : List Int) (w : World) (h : Ints13 w p L) (hL : L.length ≤ 300) (hin : ∀ n ∈ L, 0 ≤ n ∧ n ≤ 1099511627776) :
  Calls Tryz.prog 38 #[.slice p L.length cap] w fun e w' => e = .returned (.string ⟨(putsL L).toArray⟩) ∧ Bel w w' := by
 have H := Lib.hid h; clear h
 have HI := Lib.hid hin; clear hin
 go_enter Tryz.func38, Tryz.ntmps38
 go_wp2_with (fail)
 go_loopw [8] (fun i x => WrRel L w i x) (fun i _ => L.length - (intOf i).toNat)
 case atStart => exact ⟨0, Nat.zero_le _, rfl, BldW.new w, (Bel.refl w).alloc _⟩
 case round =>
  obtain ⟨k, hk, rfl, hbl, hb⟩ := hrel
  have HL := Lib.hid hbl; clear hbl
  have HB := Lib.hid hb; clear hb
  have hlen := putsL_len (L.take k)
  rw [List.length_take] at hlen
  have HLN := Lib.hid hlen
  clear hlen
  by_cases hlt : k < L.length
  ·obtain ⟨a, rfl, hc⟩ := (H.out.bel HB.out) k hlt
   have hr := HI.out L[k] (List.getElem_mem hlt)
   have HS := Lib.hid (show putsL (L.take (k + 1)) = putsL (L.take k) ++ putL L[k].toNat from puts_take hlt)
   have hkk : (k : Int) < (L.length : Int) := by omega
   generalize L[k] = n at *
   obtain ⟨m, rfl⟩ : ∃ m : Nat, n = (m : Int) := ⟨n.toNat, by omega⟩
   have hwr : IntKind.u64.wrap (m : Int) = (m : Int) := by rw [wrap_u64]; omega
   rw [Int.toNat_natCast] at HS
   have hz := Lib.hid (putL_len m)
   have hz9 := Lib.hid (szN_le m)
   go_wp2_with (fail)
   refine (put_any m _ (by omega)).mono ?_
   rintro e w2 ⟨rfl, hb⟩
   replace HB := Lib.hid (HB.out.trans hb)
   replace HL := Lib.hid (HL.out.bel hb); clear hb
   go_wp2_with (fail)
   refine (bwrite13_any w.heap.size _ ⟨(putL m).toArray⟩ _ HL.out ?_).mono ?_
   ·have := hz.out; have := hz9.out; have := HLN.out
    show _ + (putL m).toArray.size ≤ _
    simp only [List.size_toArray]; omega
   rintro e w3 ⟨rfl, hbl, hb⟩
   replace HB := Lib.hid (Below.trans HB.out hb)
   have HL3 := Lib.hid hbl
   clear hb hbl HL
   go_wp2_with (fail)
   go_roundw
   case rel => exact ⟨k + 1, hlt, by go_num, by rw [HS.out]; exact HL3.out, HB.out⟩
   case measure => simp [intOf]; omega
  ·have HX := Lib.hid (show L.take k = L from List.take_of_length_le (by omega))
   go_wp2_with (fail)
   refine (bstring_any w.heap.size _ _ HL.out).mono ?_
   rintro e w3 ⟨rfl, hb⟩
   replace HB := Lib.hid (Below.trans HB.out hb); clear hb
   go_wp2_with (fail)
   go_ret
   exact ⟨ret_string (by rw [HX.out]), HB.out⟩
set_option maxHeartbeats 4000000 in
theorem pack13_any (p : Option Addr) (c : Nat) (s : MS) (w : World) (h : PlsAt w p s.files) (hl : s.files.length ≤ 100000) (hz : s.mt.size ≤ 100000000) :
  Calls Tryz.prog 11 #[.agg #[.slice p s.files.length c, .int .i64 s.next, .int .i64 s.seq, .int .i64 s.log, .string s.mt]] w fun r w' => r = .returned (packV s) ∧ Bel w w' := by
 obtain ⟨w1, hw1⟩ : ∃ z, z = w.alloc (.cells #[.slice p s.files.length c, .int .i64 s.next, .int .i64 s.seq, .int .i64 s.log, .string s.mt] 24) := ⟨_, rfl⟩
 have hB1 : Bel w w1 := by rw [hw1]; exact (Bel.refl w).alloc _
 have kx : w1.heap[w.heap.size]? = some (.cells #[.slice p s.files.length c, .int .i64 s.next, .int .i64 s.seq, .int .i64 s.log, .string s.mt] 24 (0, 0)) := by rw [hw1]; exact tnew13 w _ _
 obtain ⟨⟨x0, x1, x2, x3, x4⟩, -⟩ := box5 kx
 have H := Lib.hid (h.bel hB1)
 have HB1 := Lib.hid hB1
 have HR := Lib.hid (right13_any p c s w1 (h.bel hB1) hl hz)
 clear h hB1 kx
 go_enter Tryz.func11, Tryz.ntmps11
 go_wp2_with (fail)
 rw [show (w.alloc (.cells #[.slice p s.files.length c, .int .i64 s.next, .int .i64 s.seq, .int .i64 s.log, .string s.mt] 24)) = w1 from hw1.symm]
 clear hw1
 refine HR.out.mono ?_
 rintro r w2 ⟨rfl, hb2⟩
 have HB2 := Lib.hid (HB1.out.trans hb2)
 have H2 := Lib.hid (H.out.bel hb2)
 have y0 := cl13 hb2 x0
 have y1 := cl13 hb2 x1
 have y2 := cl13 hb2 x2
 have y3 := cl13 hb2 x3
 have y4 := cl13 hb2 x4
 clear hb2 x0 x1 x2 x3 x4 H HR
 cases hr : rightM s with
 | false =>
  have HV := Lib.hid (pack_no hr)
  clear hr
  go_wp2_with (fail)
  go_ret2
  exact ⟨by rw [HV.out]; rfl, HB2.out⟩
 | true =>
  have HV := Lib.hid (pack_yes hr)
  have hni := nums_in hr
  have h40 := (right_parts hr).2.1
  have HNI := Lib.hid hni
  have HN4 := Lib.hid (show ∀ n ∈ [s.next, s.seq, s.log, (s.files.length : Int)], 0 ≤ n ∧ n ≤ 1099511627776 from fun n hn => hni n (by
   simp only [numsM, List.mem_cons, List.not_mem_nil, or_false] at hn ⊢
   rcases hn with h | h | h | h <;> simp [h]))
  clear hr hni
  go_wp2_with (fail)
  obtain ⟨w3, hw3⟩ : ∃ z, z = w2.alloc (.cells #[.int .i64 s.next, .int .i64 s.seq, .int .i64 s.log, .int .i64 (s.files.length : Int)] 3) := ⟨_, rfl⟩
  rw [← hw3]
  have hb3 : Bel w2 w3 := by rw [hw3]; exact (Bel.refl w2).alloc _
  have HI3 := Lib.hid (show Ints13 w3 (some ⟨w2.heap.size, 0, none⟩) [s.next, s.seq, s.log, (s.files.length : Int)] by rw [hw3]; exact ints13_new _ (heap_alloc_new w2 _) rfl)
  have HB3 := Lib.hid hb3
  clear hw3 hb3
  refine (written_any (some ⟨w2.heap.size, 0, none⟩) 4 [s.next, s.seq, s.log, (s.files.length : Int)] w3 HI3.out (by simp) HN4.out).mono ?_
  rintro r w4 ⟨rfl, hb4⟩
  have HB4 := Lib.hid (HB3.out.trans hb4)
  have z0 := cl13 HB4.out y0
  have z4 := cl13 HB4.out y4
  have H4 := Lib.hid (H2.out.bel HB4.out)
  clear hb4 y0 y1 y2 y3 y4 H2
  have hsz4 := putsL_len [s.next, s.seq, s.log, (s.files.length : Int)]
  go_wp2_with (fail)
  go_loopw [4, 24] (fun tv iv x => ∃ (i : Nat) (S : ByteArray), i ≤ s.files.length ∧ iv = .int .i64 i ∧ tv = .string S ∧ S.data.toList = putsL [s.next, s.seq, s.log, (s.files.length : Int)] ++ putsL (pairsL (s.files.take i)) ∧ S.size ≤ 36 + 18 * i ∧ Bel w4 x) (fun _ iv _ => s.files.length - (intOf iv).toNat)
  case atStart => exact ⟨0, _, Nat.zero_le _, rfl, rfl, by simp [pairsL, putsL], by rw [str_len]; exact hsz4, Bel.refl w4⟩
  case round =>
   obtain ⟨i, S, hi, rfl, rfl, hS, hSz, hw⟩ := hrel
   have HS := Lib.hid hS
   have HW := Lib.hid hw
   by_cases hil : i < s.files.length
   ·obtain ⟨a, B, O, sp, rfl, ha, q0, q1⟩ := (H4.out.bel hw) i hil
    have hii : (i : Int) < (s.files.length : Int) := by omega
    have HPT := Lib.hid (pairs_take hil)
    have hin2 : ∀ n ∈ [s.files[i].n, s.files[i].l], 0 ≤ n ∧ n ≤ 1099511627776 := fun n hn => HNI.out n (by
     have : n ∈ pairsL s.files := by
      unfold pairsL
      rw [List.mem_flatMap]
      exact ⟨s.files[i], List.getElem_mem hil, hn⟩
     simp [numsM, this])
    have HN2 := Lib.hid hin2
    clear hin2 hS hw
    generalize s.files[i].n = pn at *
    generalize s.files[i].l = pl at *
    go_wp2_with (fail)
    obtain ⟨x4, hx4⟩ : ∃ x, x = ((wr.alloc (.cells #[.int .i64 pn, .int .i64 pl] 95)).alloc (.cells #[.int .i64 pn, .int .i64 pl] 3)) := ⟨_, rfl⟩
    rw [← hx4]
    have HX4 := Lib.hid (show Bel wr x4 by rw [hx4]; exact ((Bel.refl wr).alloc _).alloc _)
    have HI4 := Lib.hid (show Ints13 x4 (some ⟨wr.heap.size + 1, 0, none⟩) [pn, pl] by
     have e : (wr.alloc (.cells #[.int .i64 pn, .int .i64 pl] 95)).heap.size = wr.heap.size + 1 := by simp
     rw [hx4, ← e]; exact ints13_new _ (heap_alloc_new _ _) rfl)
    clear hx4
    refine (written_any (some ⟨wr.heap.size + 1, 0, none⟩) 2 [pn, pl] x4 HI4.out (by simp) HN2.out).mono ?_
    rintro r w5 ⟨rfl, hb5⟩
    have HB5 := Lib.hid (HW.out.trans (HX4.out.trans hb5))
    clear hb5
    have hsz2 : (putsL [pn, pl]).length ≤ 18 := putsL_len [pn, pl]
    have hstl := str_len (putsL [pn, pl])
    have HPZ := Lib.hid (show (⟨(putsL [pn, pl]).toArray⟩ : ByteArray).size ≤ 18 by rw [hstl]; exact hsz2)
    clear hstl
    go_wp2_with (fail)
    go_roundw
    case rel => exact ⟨i + 1, S ++ ⟨(putsL [pn, pl]).toArray⟩, hil, by go_num, rfl, by rw [HPT.out, putsL_append]; simp [HS.out], by rw [ByteArray.size_append]; have := HPZ.out; omega, HB5.out⟩
    case measure => simp [intOf]; omega
   ·obtain rfl : i = s.files.length := by omega
    have hii : ¬ (s.files.length : Int) < (s.files.length : Int) := by omega
    have q4 := cl13 hw z4
    have HV2 := Lib.hid (show Value.tuple #[.string (S ++ s.mt), .int .i64 0] = packV s by
     rw [HV.out]
     have h1 := HS.out
     rw [List.take_length] at h1
     have : (S ++ s.mt) = ⟨(encM s).toArray⟩ := by
      apply ByteArray.ext
      apply Array.ext'
      have e : encM s = (putsL [s.next, s.seq, s.log, (s.files.length : Int)] ++ putsL (pairsL s.files)) ++ s.mt.data.toList := by
       rw [← putsL_append]; rfl
      simp [e, h1]
     rw [this])
    clear hS hw
    go_wp2_with (fail)
    go_ret2
    exact ⟨by rw [← HV2.out]; rfl, HB2.out.trans (HB4.out.trans HW.out)⟩
set_option maxRecDepth 100000

theorem own_empty13 {α : Type} {E : El α} {W : World} {n B : Nat} (h : W.heap[B]? = some (.cells #[] E.T (0, 0))) (hn : n ≤ B) : OwnG E n W (.slice (some ⟨B, 0, none⟩) 0 0) [] := by
 refine ⟨by simp [El.all], Or.inr ⟨B, 0, #[], rfl, hn, h, Nat.le_refl _, by unfold maxLen; omega, by simp, by simp [El.all]⟩⟩
theorem pls_src {w : World} {a : Addr} {l : List PL} {c : Nat} (h : PlsAt w (some a) l) : SrcAt plElP w (.slice (some a) l.length c) l := by
 refine Or.inr ⟨a, c, rfl, fun j u hj => ?_⟩
 have hlen : (plElP.all l).length = l.length * 2 := El.all_len plOkP l
 have hjl : j < l.length * 2 := by rw [← hlen]; exact (List.getElem?_eq_some_iff.1 hj).1
 have hi : j / 2 < l.length := by omega
 obtain ⟨a', B, O, sp, h0, h1, h2, h3⟩ := h (j / 2) hi
 obtain rfl : a = a' := by simpa using h0
 have hk : j % 2 < 2 := Nat.mod_lt _ (by omega)
 have hg := El.all_get plOkP l (j / 2) l[j / 2] (List.getElem?_eq_getElem hi) (j % 2) hk
 rw [show j / 2 * plElP.n + j % 2 = j from by show j / 2 * 2 + j % 2 = j; omega, hj] at hg
 rcases (by omega : j % 2 = 0 ∨ j % 2 = 1) with e | e
 ·rw [e] at hg
  have hu : u = .int .i64 l[j / 2].n := by simpa [plElP] using hg
  rw [show j = j / 2 * 2 by omega, h1, hu, h2]
 ·rw [e] at hg
  have hu : u = .int .i64 l[j / 2].l := by simpa [plElP] using hg
  have e2 : a.add j = ⟨B, O + 1, none⟩ := by
   obtain ⟨ab, ao, asp⟩ := a
   have hj1 : j = j / 2 * 2 + 1 := by omega
   generalize j / 2 * 2 = m at *
   subst hj1
   cases m with
   | zero => simp [Addr.add] at h1 ⊢; exact ⟨h1.1, h1.2.1⟩
   | succ m => simp [Addr.add] at h1 ⊢; exact ⟨h1.1, by omega⟩
  rw [e2, hu, h3]
set_option maxHeartbeats 4000000 in
theorem clone13_any (p : Option Addr) (c : Nat) (l : List PL) (w : World) (h : PlsAt w p l) (hl : l.length ≤ 100000) :
  Calls Tryz.prog 80 #[.slice p l.length c] w fun e y => ∃ p' c', e = .returned (.slice p' l.length c') ∧ OwnG plElP w.heap.size y (.slice p' l.length c') l ∧ Bel w y := by
 cases p with
 | none =>
  obtain rfl : l = [] := by
   cases l with
   | nil => rfl
   | cons x l => obtain ⟨a, B, O, sp, h0, -⟩ := h 0 (by simp); cases h0
  have hnil : (binOp .eql 22 (.slice none 0 c) (.slice none 0 0)).run Tryz.prog w = .ok (.bool true) w := Lib.run_eql_slice_nil w _ _ _ _ _ _ _ Tryz.underlying22
  go_enter Tryz.func80, Tryz.ntmps80
  go_wp2_with (fail)
  go_ret
  exact ⟨none, 0, rfl, OwnG.nil _ _ _, Bel.refl w⟩
 | some a =>
  have H := Lib.hid h
  clear h
  have hnil : (binOp .eql 22 (.slice (some a) l.length c) (.slice none 0 0)).run Tryz.prog w = .ok (.bool false) w := Lib.run_eql_slice_nil w _ _ _ _ _ _ _ Tryz.underlying22
  go_enter Tryz.func80, Tryz.ntmps80
  go_wp2_with (at_builtin; refine stop_here ?_)
  refine go_on ?_
  obtain ⟨B, hB⟩ : ∃ B, B = w.heap.size := ⟨_, rfl⟩
  obtain ⟨x, hx⟩ : ∃ x, x = w.alloc (.cells #[] 95) := ⟨_, rfl⟩
  have hk : x.heap[B]? = some (.cells #[] 95 (0, 0)) := by rw [hx, hB]; exact heap_alloc_new w _
  have hb : Bel w x := by rw [hx]; exact (Bel.refl w).alloc _
  rw [← hx, ← hB]
  have HO := Lib.hid (own_empty13 (E := plElP) (n := B) hk (Nat.le_refl _))
  have HS := Lib.hid (pls_src (c := c) (H.out.bel hb))
  have HB := Lib.hid hb
  have HBE := Lib.hid hB
  clear hx hk hb hB
  refine append_src plOkP rfl _ _ rfl rfl HO.out l rfl HS.out (by simp; unfold maxLen; omega) (by simp; omega) (by rw [HBE.out]; exact HB.out.size) ?_
  intro v8 w8 ho8 hb8 hk8 hv8
  rw [List.nil_append] at ho8
  obtain ⟨p8, c8, rfl⟩ := ownG_len ho8
  have HO8 := Lib.hid ho8
  have HB8 := Lib.hid (show Bel w w8 from Below.trans HB.out (HBE.out ▸ hb8))
  clear ho8 hb8 hk8 hv8
  go_wp2_with (fail)
  go_ret
  rw [HBE.out] at HO8
  exact ⟨p8, c8, rfl, HO8.out, HB8.out⟩
set_option maxHeartbeats 4000000 in
theorem copied_any (p : Option Addr) (c : Nat) (s : MS) (w : World) (h : PlsAt w p s.files) (hl : s.files.length ≤ 100000) :
  Calls Tryz.prog 47 #[.agg #[.slice p s.files.length c, .int .i64 s.next, .int .i64 s.seq, .int .i64 s.log, .string s.mt]] w fun e y => ∃ p' c', e = .returned (.agg #[.slice p' s.files.length c', .int .i64 s.next, .int .i64 s.seq, .int .i64 s.log, .string s.mt]) ∧
   OwnG plElP w.heap.size y (.slice p' s.files.length c') s.files ∧ Bel w y := by
 have H := Lib.hid h
 clear h
 go_enter Tryz.func47, Tryz.ntmps47
 go_wp2_with (fail)
 obtain ⟨X, hX⟩ : ∃ X, X = w.heap.size := ⟨_, rfl⟩
 obtain ⟨x, hx⟩ : ∃ x, x = ((w.alloc (.cells #[.slice p s.files.length c, .int .i64 s.next, .int .i64 s.seq, .int .i64 s.log, .string s.mt] 24)).alloc (.cells #[.slice none 0 0, .int .i64 0, .int .i64 0, .int .i64 0, .string ⟨#[]⟩] 24)) := ⟨_, rfl⟩
 have kX : x.heap[X]? = some (.cells #[.slice p s.files.length c, .int .i64 s.next, .int .i64 s.seq, .int .i64 s.log, .string s.mt] 24 (0, 0)) := by
  rw [hx, hX]; exact (Below.block ((Bel.refl (w.alloc _)).alloc _) w.heap.size (by simp)).trans (heap_alloc_new w _)
 have kR : x.heap[X + 1]? = some (.cells #[.slice none 0 0, .int .i64 0, .int .i64 0, .int .i64 0, .string ⟨#[]⟩] 24 (0, 0)) := by
  have e : (w.alloc (.cells #[.slice p s.files.length c, .int .i64 s.next, .int .i64 s.seq, .int .i64 s.log, .string s.mt] 24)).heap.size = X + 1 := by rw [hX]; simp
  rw [hx, ← e]; exact heap_alloc_new _ _
 have HB := Lib.hid (show Bel w x by rw [hx]; exact ((Bel.refl w).alloc _).alloc _)
 have HZ := Lib.hid (show x.heap.size = X + 2 by rw [hx, hX]; simp)
 rw [← hx, ← hX]
 have HX := Lib.hid hX
 have HKX := Lib.hid kX
 have HKR := Lib.hid kR
 clear hx hX kX kR
 refine (clone13_any p c s.files x (H.out.bel HB.out) hl).mono ?_
 rintro e x2 ⟨p2, c2, rfl, ho2, hb2⟩
 have HO2 := Lib.hid ho2
 have HB2 := Lib.hid (HB.out.trans hb2)
 obtain ⟨⟨a0, a1, a2, a3, a4⟩, g0, g1, g2, g3, g4⟩ := box5 (box_bel HKX.out hb2)
 obtain ⟨⟨r0, r1, r2, r3, r4⟩, f0, f1, f2, f3, f4⟩ := box5 (box_bel HKR.out hb2)
 clear ho2 hb2
 go_wp2_with (fail)
 trace_state
 refine bodyPost_ret (v := .agg #[.slice p2 s.files.length c2, .int .i64 s.next, .int .i64 s.seq, .int .i64 s.log, .string s.mt]) (by simp [results, Tryz.results47, go_sem, r0, r1, r2, r3, r4, f0, f1, f2, f3, f4]) rfl ⟨p2, c2, rfl, ?_, ?_⟩
 ·have h1 : X < x.heap.size := by have := HZ.out; omega
  have h2 : X + 1 < x.heap.size := by have := HZ.out; omega
  rw [← HX.out]
  exact OwnG.low (B := x.heap.size) ((((((HO2.out.setCell (p := ⟨X, 0, none⟩) h1 _).setCell (p := ⟨X + 1, 0, none⟩) h2 _).setCell (p := ⟨X + 1, 1, none⟩) h2 _).setCell (p := ⟨X + 1, 2, none⟩) h2 _).setCell (p := ⟨X + 1, 3, none⟩) h2 _).setCell (p := ⟨X + 1, 4, none⟩) h2 _) (by omega)
 ·have h3 := HX.out
  repeat' first | exact HB2.out | refine Bel.setCell ?_ (by simp; omega) _ | refine Bel.drewN ?_ _
set_option maxRecDepth 100000

theorem pick13_same (c : Int) (n : Nat) (w : World) (hc : in64 c) (hn : 0 < n) (hn2 : n ≤ 1000000) :
  Calls Tryz.prog 21 #[.int .i64 c, .int .i64 n] w fun e w' => e = .returned (.int .i64 (pickN c n : Nat)) ∧ w' = w := by
 obtain ⟨h1, h2⟩ := hc
 by_cases h : c < 0
 ·obtain ⟨m, rfl⟩ : ∃ m : Nat, c = -(m : Int) - 1 := ⟨(-(c + 1)).toNat, by omega⟩
  have HP := Lib.hid (show ((pickN (-(m : Int) - 1) n : Nat) : Int) = (m : Int) % (n : Int) by
   unfold pickN
   rw [if_pos h, show (-(-(m : Int) - 1 + 1)).toNat = m by omega, Int.natCast_emod])
  go_enter Tryz.func21, Tryz.ntmps21
  go_wp2
  go_ret
  exact ⟨ret_int (by rw [HP.out]), rfl⟩
 ·obtain ⟨m, rfl⟩ : ∃ m : Nat, c = m := ⟨c.toNat, by omega⟩
  have HP := Lib.hid (show ((pickN m n : Nat) : Int) = (m : Int) % (n : Int) by
   unfold pickN
   rw [if_neg h, Int.toNat_natCast, Int.natCast_emod])
  go_enter Tryz.func21, Tryz.ntmps21
  go_wp2
  go_ret
  exact ⟨ret_int (by rw [HP.out]), rfl⟩
theorem pick13_at (c x : Int) (n : Nat) (w : World) (hc : in64 c) (hn : 0 < n) (hn2 : n ≤ 1000000) (hx : x = n) :
  Calls Tryz.prog 21 #[.int .i64 c, .int .i64 x] w fun e w' => e = .returned (.int .i64 (pickN c n : Nat)) ∧ w' = w := by
 subst hx; exact pick13_same c n w hc hn hn2

def asB (s : MS) : Bool := decide (s.files.length ≤ 60) && decide (s.mt.size ≤ 31000)
def asM (s : MS) : MS := if asB s = true then s else { s with files := [] }
def AsPost (w : World) (s : MS) (e : Ending) (y : World) : Prop := ∃ p c, e = .returned (.tuple #[.agg #[.slice p (asM s).files.length c, .int .i64 s.next, .int .i64 s.seq, .int .i64 s.log, .string s.mt], .bool (asB s)]) ∧ OwnG plElR w.heap.size y (.slice p (asM s).files.length c) (asM s).files ∧ Bel w y
theorem as_no {s : MS} (h : asB s = false) : (asM s).files = [] := by unfold asM; rw [if_neg (by rw [h]; simp)]
theorem as_yes {s : MS} (h : asB s = true) : asM s = s := by unfold asM; rw [if_pos h]
theorem alloc_three (w : World) (o1 o2 o3 : Obj) : (((w.alloc o1).alloc o2).alloc o3).heap.size = w.heap.size + 1 + 1 + 1 ∧ (((w.alloc o1).alloc o2).alloc o3).heap[w.heap.size]? = some o1 ∧
  (((w.alloc o1).alloc o2).alloc o3).heap[w.heap.size + 1]? = some o2 ∧ (((w.alloc o1).alloc o2).alloc o3).heap[w.heap.size + 1 + 1]? = some o3 := by
 have h1 : (w.alloc o1).heap.size = w.heap.size + 1 := by simp
 have h2 : ((w.alloc o1).alloc o2).heap.size = w.heap.size + 1 + 1 := by simp
 have b (x : World) (o : Obj) (k : Nat) (hk : k < x.heap.size) : (x.alloc o).heap[k]? = x.heap[k]? := Below.block ((Bel.refl x).alloc o) k hk
 refine ⟨by simp, ?_, ?_, ?_⟩
 ·rw [b _ _ _ (by omega), b _ _ _ (by omega)]; exact heap_alloc_new w o1
 ·rw [b _ _ _ (by omega), ← h1]; exact heap_alloc_new _ o2
 ·rw [← h2]; exact heap_alloc_new _ o3
set_option maxHeartbeats 8000000 in
theorem as13_any (p : Option Addr) (c : Nat) (s : MS) (w : World) (h : PlsAt w p s.files) (hl : s.files.length ≤ 9223372036854775807) (hz : s.mt.size ≤ 9223372036854775807) :
  Calls Tryz.prog 10 #[.agg #[.slice p s.files.length c, .int .i64 s.next, .int .i64 s.seq, .int .i64 s.log, .string s.mt]] w (AsPost w s) := by
 obtain ⟨X, hX⟩ : ∃ X, X = w.heap.size := ⟨_, rfl⟩
 obtain ⟨R, hR⟩ : ∃ R, R = w.heap.size + 1 := ⟨_, rfl⟩
 obtain ⟨S, hS⟩ : ∃ S, S = w.heap.size + 1 + 1 := ⟨_, rfl⟩
 obtain ⟨w0, hw0⟩ : ∃ z, z = (((w.alloc (.cells #[.slice p s.files.length c, .int .i64 s.next, .int .i64 s.seq, .int .i64 s.log, .string s.mt] 24)).alloc (.cells #[.slice none 0 0, .int .i64 0, .int .i64 0, .int .i64 0, .string ⟨#[]⟩] 28)).alloc (.cells #[.slice none 0 0, .int .i64 s.next, .int .i64 s.seq, .int .i64 s.log, .string s.mt] 28)) := ⟨_, rfl⟩
 obtain ⟨hz0, k0, k1, k2⟩ := alloc_three w (.cells #[.slice p s.files.length c, .int .i64 s.next, .int .i64 s.seq, .int .i64 s.log, .string s.mt] 24) (.cells #[.slice none 0 0, .int .i64 0, .int .i64 0, .int .i64 0, .string ⟨#[]⟩] 28) (.cells #[.slice none 0 0, .int .i64 s.next, .int .i64 s.seq, .int .i64 s.log, .string s.mt] 28)
 rw [← hw0] at hz0 k0 k1 k2
 rw [← hX] at k0
 rw [← hR] at k1
 rw [← hS] at k2
 have hb0 : Bel w w0 := by rw [hw0]; exact (((Bel.refl w).alloc _).alloc _).alloc _
 have HB0 := Lib.hid hb0
 have HP := Lib.hid h
 have HXE := Lib.hid hX
 have HRE := Lib.hid hR
 have HSE := Lib.hid hS
 have HKX := Lib.hid k0
 have HKR := Lib.hid k1
 have HKS := Lib.hid k2
 have HZ0 := Lib.hid (show w0.heap.size = S + 1 by rw [hz0, hS])
 clear h hb0 k0 k1 k2 hz0
 by_cases h60 : 60 < s.files.length
 ·have h60i : (60 : Int) < (s.files.length : Int) := by omega
  have HV := Lib.hid (show asB s = false by unfold asB; rw [decide_eq_false (by omega)]; rfl)
  go_enter Tryz.func10, Tryz.ntmps10
  go_wp2_with (fail)
  refine bodyPost_ret (v := .tuple #[.agg #[.slice none 0 0, .int .i64 s.next, .int .i64 s.seq, .int .i64 s.log, .string s.mt], .bool false]) (by simp [results, Tryz.results10, go_sem]) rfl ⟨none, 0, by rw [HV.out, as_no HV.out]; rfl, by rw [as_no HV.out]; exact OwnG.nil _ _ _, (((Bel.refl w).alloc _).alloc _).alloc _⟩
 by_cases h31 : 31000 < s.mt.size
 ·have h60i : ¬ (60 : Int) < (s.files.length : Int) := by omega
  have h31i : (31000 : Int) < (s.mt.size : Int) := by omega
  have HV := Lib.hid (show asB s = false by unfold asB; rw [decide_eq_false (show ¬ s.mt.size ≤ 31000 by omega), Bool.and_false])
  go_enter Tryz.func10, Tryz.ntmps10
  go_wp2_with (fail)
  refine bodyPost_ret (v := .tuple #[.agg #[.slice none 0 0, .int .i64 s.next, .int .i64 s.seq, .int .i64 s.log, .string s.mt], .bool false]) (by simp [results, Tryz.results10, go_sem]) rfl ⟨none, 0, by rw [HV.out, as_no HV.out]; rfl, by rw [as_no HV.out]; exact OwnG.nil _ _ _, (((Bel.refl w).alloc _).alloc _).alloc _⟩
 have h60i : ¬ (60 : Int) < (s.files.length : Int) := by omega
 have h31i : ¬ (31000 : Int) < (s.mt.size : Int) := by omega
 have HV := Lib.hid (show asB s = true by unfold asB; rw [decide_eq_true (show s.files.length ≤ 60 by omega), decide_eq_true (show s.mt.size ≤ 31000 by omega)]; rfl)
 go_enter Tryz.func10, Tryz.ntmps10
 go_wp2_with (fail)
 rw [← hw0, ← hS, ← hR, ← hX]
 clear hw0 hS hR hX
 go_loopw [5] (fun iv y => ∃ (i : Nat) (pv : Value), iv = .int .i64 i ∧ i ≤ s.files.length ∧ OwnG plElR (S + 1) y pv (s.files.take i) ∧ y.heap[S]? = some (.cells #[pv, .int .i64 s.next, .int .i64 s.seq, .int .i64 s.log, .string s.mt] 28 (0, 0)) ∧ Keep [S] w0 y) (fun iv _ => 100 - (intOf iv).toNat)
 case atStart => exact ⟨0, .slice none 0 0, rfl, Nat.zero_le _, OwnG.nil _ _ _, HKS.out, Keep.refl _ _⟩
 case round =>
  obtain ⟨i, pv, rfl, hi, hown, hbx, hkp⟩ := hrel
  have HOW := Lib.hid hown
  have HBX := Lib.hid hbx
  have HKP := Lib.hid hkp
  have HZ := Lib.hid (show S + 1 ≤ wr.heap.size by rw [← HZ0.out]; exact hkp.size)
  have HAX := Lib.hid (hkp.at HKX.out (by rw [List.mem_singleton]; have := HXE.out; have := HSE.out; omega))
  obtain ⟨pp, pc, rfl⟩ := ownG_len hown
  have ax := box_cell HAX.out 0
  simp only [List.getElem?_toArray, List.getElem?_cons_zero] at ax
  clear hown hbx hkp
  by_cases hil : i < s.files.length
  ·obtain ⟨a, B, O, sp, rfl, ha, y0, y1⟩ := HP.out i hil
   have hii : (i : Int) < (s.files.length : Int) := by omega
   have hbw : B < w.heap.size := World.block_lt_of_cell? _ _ y0
   have HBS := Lib.hid (show B < S by have := HSE.out; omega)
   have hBX := Lib.hid (show X < S by have := HSE.out; have := HXE.out; omega)
   have z0 := HKP.out.cell (cl13 HB0.out y0) (by rw [List.mem_singleton]; have := HBS.out; show B ≠ S; omega)
   have z1 := HKP.out.cell (cl13 HB0.out y1) (by rw [List.mem_singleton]; have := HBS.out; show B ≠ S; omega)
   have HTK := Lib.hid (show s.files.take (i + 1) = s.files.take i ++ [⟨s.files[i].n, s.files[i].l⟩] by rw [List.take_add_one, List.getElem?_eq_getElem hil]; rfl)
   have hpl : (s.files.take i).length = i := by rw [List.length_take]; omega
   generalize s.files[i].n = n at *
   generalize s.files[i].l = l at *
   obtain ⟨P0, hP0⟩ : ∃ P0, P0 = s.files.take i := ⟨_, rfl⟩
   rw [← hP0] at HOW HBX HTK hpl
   have HPL0 := Lib.hid hpl
   have c0 := box_cell HBX.out 0
   have g0 := box_frozen HBX.out 0
   simp only [List.getElem?_toArray, List.getElem?_cons_zero] at c0
   have HS := Lib.hid (show ∀ z, Below (S + 1) wr z → ((z.cell? ⟨S, 0, none⟩ = some (.slice pp P0.length pc) ∧ z.frozen? ⟨S, 0, none⟩ = false) ∧ (z.cell? ⟨X, 0, none⟩ = some (.slice (some a) s.files.length c) ∧ z.cell? ⟨B, O, sp⟩ = some (.int .i64 n) ∧ z.cell? ⟨B, O + 1, none⟩ = some (.int .i64 l)) ∧ Below (S + 1) wr z) from fun z hz =>
    ⟨⟨(hz.cell (by show S < S + 1; omega)).trans c0, (hz.frozen (by show S < S + 1; omega)).trans g0⟩, ⟨(hz.cell (by show X < S + 1; have := hBX.out; omega)).trans ax, (hz.cell (by show B < S + 1; have := HBS.out; omega)).trans z0, (hz.cell (by show B < S + 1; have := HBS.out; omega)).trans z1⟩, hz⟩)
   have HBD := Lib.hid (show Below (S + 1) wr wr.drew from (Below.refl _ _).drew)
   clear hP0 hpl c0 g0 y0 y1 z0 z1 hbw
   go_wp2_with (fail)
   refine region_L 18 (S := fun z => (z.cell? ⟨S, 0, none⟩ = some (.slice pp P0.length pc) ∧ z.frozen? ⟨S, 0, none⟩ = false) ∧ (z.cell? ⟨X, 0, none⟩ = some (.slice (some a) s.files.length c) ∧ z.cell? ⟨B, O, sp⟩ = some (.int .i64 n) ∧ z.cell? ⟨B, O + 1, none⟩ = some (.int .i64 l)) ∧ Below (S + 1) wr z) (by kernel_rfl) (HS.out _ HBD.out) (fun hHeld => ?_)
   refine AnyL.tk (oi := ⟨some 33, .fieldAddr 28 (.tmp 4) 0, 0, "law.go:27", #[], none⟩) (v := ?_) 0 rfl ?_ ?_;rotate_left;·(intros;go_simp<;>with_reducible rfl)
   try simp only[Act.put,sqA,sqB,sqC]
   refine AnyL.tk (oi := ⟨some 34, .load 26 (.tmp 33), 26, "law.go:27", #[⟨0, .data⟩], none⟩) (v := ?_) 1 rfl ?_ ?_;rotate_left;·(intros;go_simp<;>with_reducible rfl)
   try simp only[Act.put,sqA,sqB,sqC]
   refine AnyL.tk (oi := ⟨some 35, .fieldAddr 24 (.tmp 1) 0, 0, "law.go:27", #[], none⟩) (v := ?_) 2 rfl ?_ ?_;rotate_left;·(intros;go_simp<;>with_reducible rfl)
   try simp only[Act.put,sqA,sqB,sqC]
   refine AnyL.tk (oi := ⟨some 36, .load 22 (.tmp 35), 22, "law.go:27", #[⟨2, .data⟩], none⟩) (v := ?_) 3 rfl ?_ ?_;rotate_left;·(intros;go_simp<;>with_reducible rfl)
   try simp only[Act.put,sqA,sqB,sqC]
   refine AnyL.tk (oi := ⟨some 37, .move (.tmp 5), 3, "law.go:27", #[], none⟩) (v := ?_) 4 rfl ?_ ?_;rotate_left;·(intros;go_simp<;>with_reducible rfl)
   try simp only[Act.put,sqA,sqB,sqC]
   refine AnyL.tk (oi := ⟨some 38, .indexAddr 22 (.tmp 36) (.tmp 37), 0, "law.go:27", #[⟨3, .data⟩, ⟨4, .data⟩], none⟩) (v := ?_) 5 rfl ?_ ?_;rotate_left;·(intros;go_simp<;>with_reducible rfl)
   try simp only[Act.put,sqA,sqB,sqC]
   refine AnyL.tk (oi := ⟨some 39, .fieldAddr 95 (.tmp 38) 0, 0, "law.go:27", #[⟨5, .data⟩], none⟩) (v := ?_) 6 rfl ?_ ?_;rotate_left;·(intros;go_simp<;>with_reducible rfl)
   try simp only[Act.put,sqA,sqB,sqC]
   refine AnyL.tk (oi := ⟨some 40, .load 3 (.tmp 39), 3, "law.go:27", #[⟨6, .data⟩], none⟩) (v := ?_) 7 rfl ?_ ?_;rotate_left;·(intros;go_simp<;>with_reducible rfl)
   try simp only[Act.put,sqA,sqB,sqC]
   refine AnyL.tk (oi := ⟨some 41, .fieldAddr 24 (.tmp 1) 0, 0, "law.go:27", #[], none⟩) (v := ?_) 8 rfl ?_ ?_;rotate_left;·(intros;go_simp<;>with_reducible rfl)
   try simp only[Act.put,sqA,sqB,sqC]
   refine AnyL.tk (oi := ⟨some 42, .load 22 (.tmp 41), 22, "law.go:27", #[⟨8, .data⟩], none⟩) (v := ?_) 9 rfl ?_ ?_;rotate_left;·(intros;go_simp<;>with_reducible rfl)
   try simp only[Act.put,sqA,sqB,sqC]
   refine AnyL.tk (oi := ⟨some 43, .move (.tmp 5), 3, "law.go:27", #[], none⟩) (v := ?_) 10 rfl ?_ ?_;rotate_left;·(intros;go_simp<;>with_reducible rfl)
   try simp only[Act.put,sqA,sqB,sqC]
   refine AnyL.tk (oi := ⟨some 44, .indexAddr 22 (.tmp 42) (.tmp 43), 0, "law.go:27", #[⟨9, .data⟩, ⟨10, .data⟩], none⟩) (v := ?_) 11 rfl ?_ ?_;rotate_left;·(intros;go_simp<;>with_reducible rfl)
   try simp only[Act.put,sqA,sqB,sqC]
   refine AnyL.tk (oi := ⟨some 45, .fieldAddr 95 (.tmp 44) 1, 0, "law.go:27", #[⟨11, .data⟩], none⟩) (v := ?_) 12 rfl ?_ ?_;rotate_left;·(intros;go_simp<;>with_reducible rfl)
   try simp only[Act.put,sqA,sqB,sqC]
   refine AnyL.tk (oi := ⟨some 46, .load 3 (.tmp 45), 3, "law.go:27", #[⟨12, .data⟩], none⟩) (v := ?_) 13 rfl ?_ ?_;rotate_left;·(intros;go_simp<;>with_reducible rfl)
   try simp only[Act.put,sqA,sqB,sqC]
   refine AnyL.tk (oi := ⟨some 47, .build 96 #[(0, .tmp 40), (1, .tmp 46)], 96, "law.go:27", #[⟨7, .data⟩, ⟨13, .data⟩], none⟩) (v := ?_) 14 rfl ?_ ?_;rotate_left;·(intros;go_simp<;>with_reducible rfl)
   try simp only[Act.put,sqA,sqB,sqC]
   clear hHeld
   refine AnyL.ready (rs := [15]) (by kernel_rfl) (by simp) ?_
   refine (AllL.cons (o := ⟨some 48, .buildSlice 26 1 #[(0, .tmp 47)], 26, "law.go:27", #[⟨14, .data⟩], none⟩) rfl (fun K hK => ?_) AllL.nil)
   go_simp
   obtain ⟨YL, hYL⟩ : ∃ n, n = wr.heap.size := ⟨_, rfl⟩
   obtain ⟨x4, hx4⟩ : ∃ x, x = (wr.alloc (.cells #[.int .i64 n, .int .i64 l] 96)).drew := ⟨_, rfl⟩
   have HLL := Lib.hid (show x4.heap[YL]? = some (.cells #[.int .i64 n, .int .i64 l] 96 (0, 0)) by rw [hx4, hYL]; exact heap_alloc_new wr _)
   have hb4 : Bel wr x4 := by rw [hx4]; exact ((Bel.refl wr).alloc _).drew
   have HB4 := Lib.hid (show Below (S + 1) wr x4 by rw [hx4]; exact ((Below.refl _ _).alloc HZ.out _).drew)
   have HOW4 := Lib.hid (HOW.out.bel hb4)
   have HZ4 := Lib.hid (show S + 1 ≤ x4.heap.size from Nat.le_trans HZ.out hb4.size)
   refine hK.out _ _ (fun _ => by rw [← hx4]; exact HS.out _ HB4.out) ?_
   clear hK K
   try simp only[Act.put,sqA,sqB,sqC]
   rw [← hx4, ← hYL]
   clear hx4 hYL hb4
   refine AnyL.ready (rs := [16]) (by kernel_rfl) (by simp) ?_
   refine (AllL.cons (o := ⟨some 49, .call ⟨.builtin .append, #[.tmp 34, .tmp 48], #[26, 26]⟩, 26, "law.go:27", #[⟨1, .data⟩, ⟨15, .data⟩], none⟩) rfl (fun K hK => ?_) AllL.nil)
   refine step_append_seg plOkR rfl (.tmp 34) (.tmp 48) rfl rfl HOW4.out [(⟨n, l⟩ : PL)] rfl (src_at13 [(⟨n, l⟩ : PL)] HLL.out rfl rfl) (by have := HPL0.out; simp only [List.length_cons, List.length_nil]; unfold maxLen; omega) (by have := HPL0.out; simp only [List.length_cons, List.length_nil]; omega) HZ4.out ?_
   intro v8 w8 ho8 hg8 hb8
   have HB8 := Lib.hid (show Below (S + 1) wr w8 from Below.trans HB4.out hb8)
   have HO8 := Lib.hid ho8
   obtain ⟨p8, cap8, rfl⟩ := ownG_len ho8
   clear ho8 hg8 hb8
   refine hK.out _ _ (fun _ => HS.out _ HB8.out) ?_
   clear hK K
   try simp only[Act.put,sqA,sqB,sqC]
   have hHeld := HS.out _ HB8.out
   refine AnyL.tk (oi := ⟨some 50, .fieldAddr 28 (.tmp 4) 0, 0, "law.go:27", #[⟨0, .phase⟩, ⟨1, .phase⟩, ⟨2, .phase⟩, ⟨3, .phase⟩, ⟨4, .phase⟩, ⟨5, .phase⟩, ⟨6, .phase⟩, ⟨7, .phase⟩, ⟨8, .phase⟩, ⟨9, .phase⟩, ⟨10, .phase⟩, ⟨11, .phase⟩, ⟨12, .phase⟩, ⟨13, .phase⟩, ⟨14, .phase⟩, ⟨15, .phase⟩, ⟨16, .phase⟩], none⟩) (v := ?_) 17 rfl ?_ ?_;rotate_left;·(intros;go_simp<;>with_reducible rfl)
   try simp only[Act.put,sqA,sqB,sqC]
   clear hHeld
   refine AnyL.ready (rs := [18]) (by kernel_rfl) (by simp) ?_
   refine (AllL.cons (o := ⟨none, .store 26 (.tmp 50) (.tmp 49), 0, "law.go:27", #[⟨17, .data⟩, ⟨16, .data⟩, ⟨16, .chain⟩, ⟨0, .phase⟩, ⟨1, .phase⟩, ⟨2, .phase⟩, ⟨3, .phase⟩, ⟨4, .phase⟩, ⟨5, .phase⟩, ⟨6, .phase⟩, ⟨7, .phase⟩, ⟨8, .phase⟩, ⟨9, .phase⟩, ⟨10, .phase⟩, ⟨11, .phase⟩, ⟨12, .phase⟩, ⟨13, .phase⟩, ⟨14, .phase⟩, ⟨15, .phase⟩, ⟨16, .phase⟩], none⟩) rfl (fun K hK => ?_) AllL.nil)
   obtain ⟨⟨s0, s1⟩, -⟩ := HS.out _ HB8.out
   go_simp
   refine hK.out _ _ (fun h => absurd rfl h) ?_
   clear hK K
   try simp only[Act.put,sqA,sqB,sqC]
   refine AnyL.done (by kernel_rfl) ?_ _
   clear s0 s1
   have HBX8 := Lib.hid ((HB8.out.block S (by omega)).trans HBX.out)
   have HPL8 := Lib.hid (show (P0 ++ [(⟨n, l⟩ : PL)]).length = P0.length + 1 by simp)
   go_wp2_with (fail)
   go_roundw
   case rel =>
    refine ⟨i + 1, .slice p8 (P0.length + 1) cap8, by go_num, hil, ?_, blk_set HBX8.out 0 _, (keep_below HKP.out HB8.out (by rw [HZ0.out]; exact Nat.le_refl _)).setCell (p := ⟨S, 0, none⟩) (Or.inl (by simp)) _⟩
    rw [HTK.out]
    have h := HO8.out
    rw [HPL8.out] at h
    exact h.setCell (p := ⟨S, 0, none⟩) (by show S < S + 1; omega) _
   case measure => simp [intOf]; omega
  ·obtain rfl : i = s.files.length := by omega
   have hii : ¬ (s.files.length : Int) < (s.files.length : Int) := by omega
   rw [List.take_length] at HOW HBX
   obtain ⟨⟨s0, s1, s2, s3, s4⟩, -⟩ := box5 HBX.out
   obtain ⟨⟨r0, r1, r2, r3, r4⟩, f0, f1, f2, f3, f4⟩ := box5 (HKP.out.at HKR.out (by rw [List.mem_singleton]; have := HRE.out; have := HSE.out; omega))
   have HBW := Lib.hid (bel_keep HB0.out HKP.out (fun k hk => by rw [List.mem_singleton] at hk; have := HSE.out; omega))
   have HRS := Lib.hid (show R < S + 1 ∧ w.heap.size ≤ R by have := HRE.out; have := HSE.out; omega)
   have hrs := HRS.out.1
   have hrw := HRS.out.2
   go_wp2_with (fail)
   refine bodyPost_ret (v := .tuple #[.agg #[.slice pp s.files.length pc, .int .i64 s.next, .int .i64 s.seq, .int .i64 s.log, .string s.mt], .bool true]) (by simp [results, Tryz.results10, go_sem, r0, r1, r2, r3, r4, f0, f1, f2, f3, f4]) rfl ⟨pp, pc, by rw [HV.out, as_yes HV.out], ?_, ?_⟩
   ·rw [as_yes HV.out]
    exact OwnG.low (B := S + 1) (((((HOW.out.setCell (p := ⟨R, 0, none⟩) hrs _).setCell (p := ⟨R, 1, none⟩) hrs _).setCell (p := ⟨R, 2, none⟩) hrs _).setCell (p := ⟨R, 3, none⟩) hrs _).setCell (p := ⟨R, 4, none⟩) hrs _) (by have := HSE.out; omega)
   ·repeat' first | exact HBW.out | refine Bel.setCell ?_ (by simp; omega) _ | refine Bel.drewN ?_ _
set_option maxRecDepth 100000

noncomputable def eqM (a b : MS) : Bool := @decide (a = b) (Classical.propDecidable _)
theorem eqM_yes {a b : MS} (h : a = b) : eqM a b = true := by unfold eqM; exact @decide_eq_true _ (Classical.propDecidable _) h
theorem eqM_no {a b : MS} (h : a ≠ b) : eqM a b = false := by unfold eqM; exact @decide_eq_false _ (Classical.propDecidable _) h
theorem take_same {l m : List PL} {k : Nat} (hk : k < l.length) (hk' : k < m.length) (h : l.take k = m.take k) (h1 : l[k].n = m[k].n) (h2 : l[k].l = m[k].l) : l.take (k + 1) = m.take (k + 1) := by
 have he : l[k] = m[k] := by
  cases e1 : l[k]
  cases e2 : m[k]
  rw [e1, e2] at h1 h2
  simp only at h1 h2
  rw [h1, h2]
 rw [List.take_add_one, List.take_add_one, List.getElem?_eq_getElem hk, List.getElem?_eq_getElem hk', h, he]
set_option maxHeartbeats 8000000 in
theorem alike13_any (p q : Option Addr) (c d : Nat) (a b : MS) (w : World) (h : PlsAt w p a.files) (h' : PlsAt w q b.files) (hl : a.files.length ≤ 1000000) (hl' : b.files.length ≤ 1000000) :
  Calls Tryz.prog 17 #[.agg #[.slice p a.files.length c, .int .i64 a.next, .int .i64 a.seq, .int .i64 a.log, .string a.mt], .agg #[.slice q b.files.length d, .int .i64 b.next, .int .i64 b.seq, .int .i64 b.log, .string b.mt]] w fun r w' => r = .returned (.bool (eqM a b)) ∧ Bel w w' := by
 obtain ⟨an, an2, an3, an4, an5⟩ := a
 obtain ⟨bn, bn2, bn3, bn4, bn5⟩ := b
 simp only at h h' hl hl'
 have H := Lib.hid h
 have H' := Lib.hid h'
 clear h h'
 by_cases h1 : an2 = bn2
 rotate_left
 ·have HR := Lib.hid (eqM_no (a := ⟨an, an2, an3, an4, an5⟩) (b := ⟨bn, bn2, bn3, bn4, bn5⟩) (fun e => h1 (by injection e)))
  go_enter Tryz.func17, Tryz.ntmps17
  go_wp2_with (fail)
  go_ret
  exact ⟨ret_bool HR.out.symm, ((Bel.refl w).alloc _).alloc _⟩
 by_cases h2 : an3 = bn3
 rotate_left
 ·have HR := Lib.hid (eqM_no (a := ⟨an, an2, an3, an4, an5⟩) (b := ⟨bn, bn2, bn3, bn4, bn5⟩) (fun e => h2 (by injection e)))
  go_enter Tryz.func17, Tryz.ntmps17
  go_wp2_with (fail)
  go_ret
  exact ⟨ret_bool HR.out.symm, ((Bel.refl w).alloc _).alloc _⟩
 by_cases h3 : an4 = bn4
 rotate_left
 ·have HR := Lib.hid (eqM_no (a := ⟨an, an2, an3, an4, an5⟩) (b := ⟨bn, bn2, bn3, bn4, bn5⟩) (fun e => h3 (by injection e)))
  go_enter Tryz.func17, Tryz.ntmps17
  go_wp2_with (fail)
  go_ret
  exact ⟨ret_bool HR.out.symm, ((Bel.refl w).alloc _).alloc _⟩
 by_cases h4 : an5 = bn5
 rotate_left
 ·have HR := Lib.hid (eqM_no (a := ⟨an, an2, an3, an4, an5⟩) (b := ⟨bn, bn2, bn3, bn4, bn5⟩) (fun e => h4 (by injection e)))
  have h4b : (an5.toList == bn5.toList) = false := by
   rw [ByteArray.toList_eq, ByteArray.toList_eq, beq_eq_false_iff_ne]
   exact fun e => h4 (by apply ByteArray.ext; exact Array.ext' e)
  go_enter Tryz.func17, Tryz.ntmps17
  go_wp2_with (fail)
  go_ret
  exact ⟨ret_bool HR.out.symm, ((Bel.refl w).alloc _).alloc _⟩
 subst h1 h2 h3 h4
 by_cases h5 : an.length = bn.length
 rotate_left
 ·have HR := Lib.hid (eqM_no (a := ⟨an, an2, an3, an4, an5⟩) (b := ⟨bn, an2, an3, an4, an5⟩) (fun e => h5 (by injection e with e; rw [e])))
  have h5i : ¬ (an.length : Int) = (bn.length : Int) := by omega
  go_enter Tryz.func17, Tryz.ntmps17
  go_wp2_with (fail)
  go_ret
  exact ⟨ret_bool HR.out.symm, ((Bel.refl w).alloc _).alloc _⟩
 have H5 := Lib.hid h5
 rw [← h5]
 clear h5
 obtain ⟨m, hm⟩ : ∃ m, m = an.length := ⟨_, rfl⟩
 have HM := Lib.hid hm
 rw [← hm] at hl ⊢
 clear hm
 obtain ⟨w0, hw0⟩ : ∃ w0, w0 = ((w.alloc (.cells #[.slice p m c, .int .i64 an2, .int .i64 an3, .int .i64 an4, .string an5] 24)).alloc (.cells #[.slice q m d, .int .i64 an2, .int .i64 an3, .int .i64 an4, .string an5] 28)) := ⟨_, rfl⟩
 have HB0 := Lib.hid (show Bel w w0 by rw [hw0]; exact ((Bel.refl w).alloc _).alloc _)
 obtain ⟨X, hX⟩ : ∃ X, X = w.heap.size := ⟨_, rfl⟩
 have HKA := Lib.hid (show w0.heap[X]? = some (.cells #[.slice p m c, .int .i64 an2, .int .i64 an3, .int .i64 an4, .string an5] 24 (0, 0)) by
  rw [hw0, hX]; exact (Below.block ((Bel.refl (w.alloc _)).alloc _) w.heap.size (by simp)).trans (heap_alloc_new w _))
 have HKB := Lib.hid (show w0.heap[X + 1]? = some (.cells #[.slice q m d, .int .i64 an2, .int .i64 an3, .int .i64 an4, .string an5] 28 (0, 0)) by
  have e : (w.alloc (.cells #[.slice p m c, .int .i64 an2, .int .i64 an3, .int .i64 an4, .string an5] 24)).heap.size = X + 1 := by rw [hX]; simp
  rw [hw0, ← e]; exact heap_alloc_new _ _)
 go_enter Tryz.func17, Tryz.ntmps17
 go_wp2_with (fail)
 rw [← hw0, ← hX]
 clear hw0 hX
 go_loopw [5] (fun iv x => ∃ i : Nat, i ≤ m ∧ iv = .int .i64 i ∧ an.take i = bn.take i ∧ Bel w0 x) (fun iv _ => m - (intOf iv).toNat)
 case atStart => exact ⟨0, Nat.zero_le _, rfl, rfl, Bel.refl w0⟩
 case round =>
  obtain ⟨i, hi, rfl, htk, hb⟩ := hrel
  have HTK := Lib.hid htk
  have HB := Lib.hid hb
  have ka := box_cell (box_bel HKA.out hb) 0
  have kb := box_cell (box_bel HKB.out hb) 0
  simp only [List.getElem?_toArray, List.getElem?_cons_zero] at ka kb
  clear htk
  by_cases him : i < m
  ·have hia : i < an.length := by rw [← HM.out]; exact him
   have hib : i < bn.length := by rw [← H5.out]; exact hia
   have hii : (i : Int) < (m : Int) := by omega
   obtain ⟨a, B, O, sp, rfl, ha, y0, y1⟩ := ((H.out.bel HB0.out).bel hb) i hia
   obtain ⟨a', B', O', sp', rfl, ha', z0, z1⟩ := ((H'.out.bel HB0.out).bel hb) i hib
   have HNX := Lib.hid (fun (e1 : an[i].n = bn[i].n) (e2 : an[i].l = bn[i].l) => take_same hia hib HTK.out e1 e2)
   have HNE := Lib.hid (fun (e : an = bn) => (show an[i].n = bn[i].n ∧ an[i].l = bn[i].l by subst e; exact ⟨rfl, rfl⟩))
   generalize an[i].n = n1 at *
   generalize an[i].l = l1 at *
   generalize bn[i].n = n2 at *
   generalize bn[i].l = l2 at *
   clear hb
   by_cases e1 : n1 = n2
   ·by_cases e2 : l1 = l2
    ·have HN := Lib.hid (HNX.out e1 e2)
     subst e1 e2
     go_wp2_with (fail)
     go_quiet (fail)
     go_wp2_with (fail)
     go_roundw
     case rel => exact ⟨i + 1, him, by go_num, HN.out, HB.out.trans ((Bel.refl wr).drewN _)⟩
     case measure => simp [intOf]; omega
    ·have HR := Lib.hid (eqM_no (a := ⟨an, an2, an3, an4, an5⟩) (b := ⟨bn, an2, an3, an4, an5⟩) (fun e => e2 (HNE.out (by injection e)).2))
     have hne : (l1 == l2) = false := by rw [beq_eq_false_iff_ne]; exact e2
     have hne' : decide (l1 = l2) = false := decide_eq_false e2
     subst e1
     go_wp2_with (fail)
     go_quiet (fail)
     go_wp2_with (fail)
     go_ret
     exact ⟨ret_bool HR.out.symm, HB0.out.trans (HB.out.trans ((Bel.refl wr).drewN _))⟩
   ·have HR := Lib.hid (eqM_no (a := ⟨an, an2, an3, an4, an5⟩) (b := ⟨bn, an2, an3, an4, an5⟩) (fun e => e1 (HNE.out (by injection e)).1))
    have hne : (n1 == n2) = false := by rw [beq_eq_false_iff_ne]; exact e1
    have hne' : decide (n1 = n2) = false := decide_eq_false e1
    go_wp2_with (fail)
    go_quiet (fail)
    go_wp2_with (fail)
    go_ret
    exact ⟨ret_bool HR.out.symm, HB0.out.trans (HB.out.trans ((Bel.refl wr).drewN _))⟩
  ·have hii : ¬ (i : Int) < (m : Int) := by omega
   have HR := Lib.hid (eqM_yes (a := ⟨an, an2, an3, an4, an5⟩) (b := ⟨bn, an2, an3, an4, an5⟩) (by
    have h1 := HTK.out
    rw [List.take_of_length_le (by rw [← HM.out]; omega), List.take_of_length_le (by rw [← H5.out, ← HM.out]; omega)] at h1
    rw [h1]))
   clear hb
   go_wp2_with (fail)
   go_ret
   exact ⟨ret_bool HR.out.symm, HB0.out.trans HB.out⟩
set_option maxRecDepth 100000

set_option maxHeartbeats 8000000 in
theorem same13_any (p q : Option Addr) (c d : Nat) (a b : MS) (w : World) (h : PlsAt w p a.files) (h' : PlsAt w q b.files) (hl : a.files.length ≤ 1000000) (hl' : b.files.length ≤ 9223372036854775807) (hz : b.mt.size ≤ 9223372036854775807) :
  Calls Tryz.prog 18 #[.agg #[.slice p a.files.length c, .int .i64 a.next, .int .i64 a.seq, .int .i64 a.log, .string a.mt], .agg #[.slice q b.files.length d, .int .i64 b.next, .int .i64 b.seq, .int .i64 b.log, .string b.mt]] w fun r w' => r = .returned (.bool (asB b && eqM a b)) ∧ Bel w w' := by
 obtain ⟨X, hX⟩ : ∃ X, X = w.heap.size := ⟨_, rfl⟩
 obtain ⟨w0, hw0⟩ : ∃ w0, w0 = ((w.alloc (.cells #[.slice p a.files.length c, .int .i64 a.next, .int .i64 a.seq, .int .i64 a.log, .string a.mt] 24)).alloc (.cells #[.slice q b.files.length d, .int .i64 b.next, .int .i64 b.seq, .int .i64 b.log, .string b.mt] 24)) := ⟨_, rfl⟩
 have hb0 : Bel w w0 := by rw [hw0]; exact ((Bel.refl w).alloc _).alloc _
 have HB0 := Lib.hid hb0
 have HKA := Lib.hid (show w0.heap[X]? = some (.cells #[.slice p a.files.length c, .int .i64 a.next, .int .i64 a.seq, .int .i64 a.log, .string a.mt] 24 (0, 0)) by
  rw [hw0, hX]; exact (Below.block ((Bel.refl (w.alloc _)).alloc _) w.heap.size (by simp)).trans (heap_alloc_new w _))
 have HAS := Lib.hid (as13_any q d b w0 (h'.bel hb0) hl' hz)
 have H := Lib.hid (h.bel hb0)
 clear h h' hb0
 go_enter Tryz.func18, Tryz.ntmps18
 go_wp2_with (fail)
 rw [← hw0]
 clear hw0
 refine HAS.out.mono ?_
 rintro e w1 ⟨p1, c1, rfl, ho1, hb1⟩
 have HO1 := Lib.hid ho1
 have HB1 := Lib.hid (HB0.out.trans hb1)
 have HA1 := Lib.hid (H.out.bel hb1)
 obtain ⟨⟨x0, x1, x2, x3, x4⟩, -⟩ := box5 (box_bel (box_bel HKA.out hb1) ((Bel.refl w1).alloc (.cells #[.slice p1 (asM b).files.length c1, .int .i64 b.next, .int .i64 b.seq, .int .i64 b.log, .string b.mt] 28)))
 rw [← hX]
 clear ho1 hb1 hX
 cases has : asB b with
 | false =>
  have HR := Lib.hid (show (asB b && eqM a b) = false by rw [has]; rfl)
  go_wp2_with (fail)
  go_ret
  exact ⟨ret_bool HR.out.symm, HB1.out.alloc _⟩
 | true =>
  have HBE := Lib.hid (as_yes has)
  rw [HBE.out] at HO1 x0 x1 x2 x3 x4 ⊢
  have hbl : b.files.length ≤ 1000000 := by
   unfold asB at has
   simp only [Bool.and_eq_true, decide_eq_true_eq] at has
   omega
  have HAL := Lib.hid (show ∀ z, Bel w1 z → Calls Tryz.prog 17 #[.agg #[.slice p a.files.length c, .int .i64 a.next, .int .i64 a.seq, .int .i64 a.log, .string a.mt], .agg #[.slice p1 b.files.length c1, .int .i64 b.next, .int .i64 b.seq, .int .i64 b.log, .string b.mt]] z fun r w' => r = .returned (.bool (eqM a b)) ∧ Bel z w' from fun z hz' =>
   alike13_any p p1 c c1 a b z (HA1.out.bel hz') ((pls_ownR HO1.out).bel hz') hl hbl)
  have HR := Lib.hid (show (asB b && eqM a b) = eqM a b by rw [has]; rfl)
  clear has
  go_wp2_with (fail)
  refine (HAL.out _ ((Bel.refl w1).alloc _)).mono ?_
  rintro e w2 ⟨rfl, hb2⟩
  have HB2 := Lib.hid ((HB1.out.alloc _).trans hb2)
  clear hb2
  go_wp2_with (fail)
  go_ret
  exact ⟨ret_bool HR.out.symm, HB2.out⟩
end Go.Proofs.YtfbiinnenlgkfaaGreatDoor
