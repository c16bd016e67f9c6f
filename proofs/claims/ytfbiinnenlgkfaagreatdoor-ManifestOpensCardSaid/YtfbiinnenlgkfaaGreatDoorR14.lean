/- FMap, FCon, FIsn, laid together. -/
import Derived.Test.YtfbiinnenlgkfaaGreatDoorR12
import Derived.Test.YtfbiinnenlgkfaaGreatDoorR13
import Derived.Maps.OwnSet
import Derived.Maps.RangeWalk
import Derived.Sort.KeysCollected
import Derived.Lib.AppendStr
import Derived.BigRegion
import Derived.Test.YtfbiinnenlgkfaaGreatDoorR11
set_option linter.unusedSimpArgs false
set_option linter.unusedVariables false
namespace Go.Proofs.YtfbiinnenlgkfaaGreatDoor
open Go.RowKit Go.Deep Go.Maps

def RV (v : Value) : Option (DataW Value × List MemPlace) := some (.held v, [])
def conV (v : Value) (n : Nat) : Value := .agg #[v, .int .i64 n]
def conZ : Value := .agg #[.slice none 0 0, .int .i64 0]
theorem keyLaw : Keyed Tryz.prog 9 := string_keyed Tryz.underlying9
theorem zeroCon (w : World) : (zeroValue 116).run Tryz.prog w = .ok conZ w := by kernel_rfl
theorem key_is (s : ByteArray) (h : s.size ≤ maxLen) : keyOf Tryz.prog 9 (.string s) = some (.string s.data.toList) := WideMaps.keyOf_string_mk Tryz.underlying9 h
theorem key_lit (nm : List UInt8) : WideAt.IsKeyLit (.string nm) := by trivial

theorem Own.keep {B : Nat} {w x : World} {v : Value} {l : List UInt8} {F : List Nat} (h : Own B w v l) (hk : Keep F w x) (hF : ∀ k, v.ownBlock = some k → k ∉ F) : Own B x v l := by
 obtain ⟨h1, h2⟩ := h
 refine ⟨h1, ?_⟩
 rcases h2 with h2 | ⟨g, cap, cur, rfl, hg, hh, r⟩
 ·exact Or.inl h2
 ·exact Or.inr ⟨g, cap, cur, rfl, hg, hk.at hh (hF g rfl), r⟩
theorem owns_keep {w x : World} {R : Value → Option (DataW Value × List MemPlace)} {k : TypeId} {b n : Nat} {D : DataW Value} {F : List Nat} (h : w.ownsMap Tryz.prog k R b n D) (hk : Keep F w x) (hb : b ∉ F) : x.ownsMap Tryz.prog k R b n D := by
 obtain ⟨es, clock, hm, r⟩ := h
 exact ⟨es, clock, hk.at hm hb, r⟩
theorem owns_tight {w : World} {R : Value → Option (DataW Value × List MemPlace)} {k : TypeId} {b n m : Nat} {D : DataW Value} (h : w.ownsMap Tryz.prog k R b n D) (hm : Maps.size D = m) : w.ownsMap Tryz.prog k R b m D := by
 obtain ⟨es, clock, hb, F, hs, hD⟩ := h
 refine ⟨es, clock, hb, F, ?_, hD⟩
 rw [← hm, hD]
 simp [Maps.size, length_sorted]
theorem keep_turned {w x : World} {b : Nat} (h : w.mapTurned x b) : Keep [b] w x := (Keep.refl [b] w).grown h.grown (fun r hr => by cases hr; exact Or.inl (by simp))

structure FilesV (n₀ : Nat) (w : World) (mb : Nat) (D : DataW Value) (V : List UInt8 → Value) (L : List FI) (e : Option (List UInt8)) : Prop where
 own : w.ownsMap Tryz.prog 9 RV mb L.length D
 low : n₀ ≤ mb
 size : Maps.size D = L.length
 has : ∀ nm, Maps.has D (.string nm) = (getF nm L).isSome
 at_ : ∀ x ∈ L, ∀ zd, D.atKey (.string x.name) zd = .held (conV (V x.name) x.safe)
 val : ∀ x ∈ L, some x.name ≠ e → Own n₀ w (V x.name) x.bytes
 apart : ∀ x ∈ L, ∀ y ∈ L, x.name ≠ y.name → ∀ k, (V x.name).ownBlock = some k → (V y.name).ownBlock ≠ some k
section
variable {n₀ : Nat} {w x : World} {mb : Nat} {D : DataW Value} {V : List UInt8 → Value} {L : List FI} {e : Option (List UInt8)}

theorem FilesV.lt (h : FilesV n₀ w mb D V L e) : mb < w.heap.size := h.own.lt
theorem FilesV.ne_row (h : FilesV n₀ w mb D V L e) {v : Value} {l : List UInt8} (ho : Own n₀ w v l) : v.ownBlock ≠ some mb := by
 intro hk
 obtain ⟨es, clock, hm, _⟩ := h.own
 rcases ho.2 with ⟨rfl, _⟩ | ⟨g, cap, cur, rfl, _, hgb, _⟩
 ·simp [Value.ownBlock] at hk
 ·obtain rfl : g = mb := by simpa [Value.ownBlock] using hk
  rw [hm] at hgb; cases hgb
theorem FilesV.keep {F : List Nat} (h : FilesV n₀ w mb D V L e) (hk : Keep F w x) (hb : mb ∉ F) (hv : ∀ y ∈ L, some y.name ≠ e → ∀ k, (V y.name).ownBlock = some k → k ∉ F) : FilesV n₀ x mb D V L e :=
 ⟨owns_keep h.own hk hb, h.low, h.size, h.has, h.at_, fun y hy he => (h.val y hy he).keep hk (hv y hy he), h.apart⟩
theorem FilesV.bel (h : FilesV n₀ w mb D V L e) (hb : Bel w x) : FilesV n₀ x mb D V L e := h.keep (Keep.of_bel hb []) (by simp) (fun _ _ _ _ _ => by simp)
theorem FilesV.but {y : FI} (h : FilesV n₀ w mb D V L none) (hy : y ∈ L) (hk : Keep (V y.name).ownBlock.toList w x) : FilesV n₀ x mb D V L (some y.name) := by
 have hm : mb ∉ (V y.name).ownBlock.toList := by
  intro hm
  rw [Option.mem_toList] at hm
  exact h.ne_row (h.val y hy (by simp)) hm
 refine ⟨owns_keep h.own hk hm, h.low, h.size, h.has, h.at_, fun z hz he => (h.val z hz (by simp)).keep hk fun k hk1 hk2 => ?_, h.apart⟩
 rw [Option.mem_toList] at hk2
 exact h.apart z hz y hy (fun e => he (by rw [e])) k hk1 hk2
theorem FilesV.weak (h : FilesV n₀ w mb D V L none) (nm : List UInt8) : FilesV n₀ w mb D V L (some nm) := ⟨h.own, h.low, h.size, h.has, h.at_, fun y hy _ => h.val y hy (by simp), h.apart⟩
theorem FilesV.nil (w : World) (V : List UInt8 → Value) (hn : n₀ ≤ w.heap.size) : FilesV n₀ (w.alloc (.map #[] 0)) w.heap.size (.map []) V [] none :=
 ⟨World.ownsMap_made _ _ _ _, hn, rfl, fun _ => rfl, (fun x hx => by cases hx), (fun x hx => by cases hx), (fun x hx => by cases hx)⟩
theorem FilesV.at_none (h : FilesV n₀ w mb D V L e) {nm : List UInt8} (hn : getF nm L = none) (zd : DataW Value) : D.atKey (.string nm) zd = zd :=
 Maps.atKey_of_not_has (by rw [h.has, hn]; rfl) zd
theorem FilesV.at_some (h : FilesV n₀ w mb D V L e) {nm : List UInt8} {y : FI} (hn : getF nm L = some y) (zd : DataW Value) : D.atKey (.string nm) zd = .held (conV (V nm) y.safe) := by
 have := h.at_ y (getF_mem hn) zd
 rwa [getF_name hn] at this
theorem FilesV.put (hs : Srt L) {y : FI} {v' : Value} {n : Nat} (h : FilesV n₀ w mb D V L (some y.name))
  (hw : x.ownsMap Tryz.prog 9 RV mb n (D.put (.string y.name) (.held (conV v' y.safe)))) (hk : Keep [mb] w x) (ho : Own n₀ x v' y.bytes)
  (hap : ∀ z ∈ L, z.name ≠ y.name → ∀ k, v'.ownBlock = some k → (V z.name).ownBlock ≠ some k) :
  FilesV n₀ x mb (D.put (.string y.name) (.held (conV v' y.safe))) (fun nm => if nm = y.name then v' else V nm) (insS y L) none := by
 have hsz : Maps.size (D.put (.string y.name) (.held (conV v' y.safe))) = (insS y L).length := by
  rw [Maps.size_put (h.own.tidy keyLaw), h.has, h.size, len_ins y hs]
 refine ⟨owns_tight hw hsz, h.low, hsz, fun nm => ?_, fun z hz zd => ?_, fun z hz _ => ?_, fun z hz z' hz' hne k => ?_⟩
 ·rw [getF_ins y hs]
  by_cases he : nm = y.name
  ·rw [if_pos he, he, Maps.has_put_same h.own.isMap (key_lit _)]; rfl
  ·rw [if_neg he, Maps.has_put_other (by simpa using he), h.has]
 ·rcases mem_ins hz with rfl | hz
  ·simp only [if_true]
   rw [Maps.atKey_put_same h.own.isMap (key_lit _)]
  ·have hg := getF_of_mem (srt_ins y hs) (by assumption : z ∈ insS y L)
   rw [getF_ins y hs] at hg
   by_cases he : z.name = y.name
   ·rw [if_pos he] at hg
    obtain rfl : y = z := by simpa using hg
    simp only [if_true]
    rw [Maps.atKey_put_same h.own.isMap (key_lit _)]
   ·simp only [if_neg he]
    rw [Maps.atKey_put_other (by simpa using he)]
    exact h.at_ z hz zd
 ·have hg := getF_of_mem (srt_ins y hs) hz
  rw [getF_ins y hs] at hg
  by_cases he : z.name = y.name
  ·rw [if_pos he] at hg
   obtain rfl : y = z := by simpa using hg
   simp only [if_true]
   exact ho
  ·rw [if_neg he] at hg
   have hzL := getF_mem hg
   simp only [if_neg he]
   have := h.val z hzL (by simpa using he)
   exact this.keep hk (fun k hk1 hk2 => by
    rw [List.mem_singleton] at hk2
    subst hk2
    exact h.ne_row this hk1)
 ·have mem : ∀ z ∈ insS y L, z.name ≠ y.name → z ∈ L := fun z hz he => by
   rcases mem_ins hz with rfl | hz
   ·exact absurd rfl he
   ·exact hz
  by_cases he : z.name = y.name
  ·have he' : z'.name ≠ y.name := fun e => hne (he.trans e.symm)
   simp only [if_pos he, if_neg he']
   exact hap z' (mem z' hz' he') he' k
  ·by_cases he' : z'.name = y.name
   ·simp only [if_neg he, if_pos he']
    intro h1 h2
    exact hap z (mem z hz he) he k h2 h1
   ·simp only [if_neg he, if_neg he']
    exact h.apart z (mem z hz he) z' (mem z' hz' he') hne k
theorem FilesV.del (hs : Srt L) {nm : List UInt8} {n : Nat} (h : FilesV n₀ w mb D V L none) (hw : x.ownsMap Tryz.prog 9 RV mb n (D.del (.string nm))) (hk : Keep [mb] w x) :
  FilesV n₀ x mb (D.del (.string nm)) V (outS nm L) none := by
 have hsz : Maps.size (D.del (.string nm)) = (outS nm L).length := by
  have := Maps.size_del (k := .string nm) (h.own.tidy keyLaw)
  rw [h.has, h.size] at this
  rw [len_out nm hs]
  split at this <;> rename_i hc
  ·rw [if_pos hc]; omega
  ·rw [if_neg hc]; omega
 have ne : ∀ z ∈ outS nm L, z.name ≠ nm := fun z hz e => by
  have hg := getF_of_mem (srt_out nm hs) hz
  rw [getF_out nm hs, if_pos e] at hg
  cases hg
 refine ⟨owns_tight hw hsz, h.low, hsz, fun m => ?_, fun z hz zd => ?_, fun z hz _ => ?_, fun z hz z' hz' hne k => h.apart z (mem_out hz) z' (mem_out hz') hne k⟩
 ·rw [getF_out nm hs]
  by_cases he : m = nm
  ·rw [if_pos he, he, Maps.has_del_same]; rfl
  ·rw [if_neg he, Maps.has_del_other (by simpa using he), h.has]
 ·rw [Maps.atKey_del_other (by simpa using ne z hz)]
  exact h.at_ z (mem_out hz) zd
 ·have := h.val z (mem_out hz) (by simp)
  exact this.keep hk (fun k hk1 hk2 => by
   rw [List.mem_singleton] at hk2
   subst hk2
   exact h.ne_row this hk1)
end
def FilesAt (n₀ : Nat) (w : World) (mv : Value) (L : List FI) (F : List Nat) : Prop :=
 (mv = .map none ∧ L = []) ∨ ∃ mb D V, mv = .map (some mb) ∧ FilesV n₀ w mb D V L none ∧ mb ∈ F ∧ ∀ y ∈ L, ∀ k, (V y.name).ownBlock = some k → k ∈ F
structure ProgAt (n₀ : Nat) (w : World) (b : Nat) (M : RS) (F : List Nat) : Prop where
 ex : ∃ mv t, w.heap[b]? = some (.cells #[.int .i64 M.room, mv, .bool (decide (0 ≤ M.turns)), .int .i64 t, .bool M.gone] 113 (0, 0)) ∧ (0 ≤ M.turns → t = M.turns) ∧ in64 t ∧ FilesAt n₀ w mv M.L F
 low : n₀ ≤ b
 mem : b ∈ F
 within : ∀ k ∈ F, n₀ ≤ k ∧ k < w.heap.size
def ProgTo (n₀ : Nat) (w x : World) (b : Nat) (M : RS) (F : List Nat) : Prop := ∃ G, ProgAt n₀ x b M G ∧ Keep F w x ∧ ∀ k ∈ G, k ∈ F ∨ w.heap.size ≤ k
section
variable {n₀ : Nat} {w x : World} {b : Nat} {M : RS} {F : List Nat} {mv : Value} {L : List FI}
theorem FilesAt.keep {G : List Nat} (h : FilesAt n₀ w mv L F) (hk : Keep G w x) (hG : ∀ k ∈ F, k ∉ G) : FilesAt n₀ x mv L F := by
 rcases h with h | ⟨mb, D, V, rfl, h, hm, hv⟩
 ·exact Or.inl h
 ·exact Or.inr ⟨mb, D, V, rfl, h.keep hk (hG mb hm) (fun y hy _ k hk1 => hG k (hv y hy k hk1)), hm, hv⟩
theorem FilesAt.bel (h : FilesAt n₀ w mv L F) (hb : Bel w x) : FilesAt n₀ x mv L F := h.keep (Keep.of_bel hb []) (fun _ _ => by simp)
theorem ProgAt.keep {G : List Nat} (h : ProgAt n₀ w b M F) (hk : Keep G w x) (hG : ∀ k ∈ F, k ∉ G) : ProgAt n₀ x b M F := by
 obtain ⟨⟨mv, t, h1, h2, h3, h4⟩, h5, h6, h7⟩ := h
 exact ⟨⟨mv, t, hk.at h1 (hG b h6), h2, h3, h4.keep hk hG⟩, h5, h6, fun k hk' => ⟨(h7 k hk').1, Nat.lt_of_lt_of_le (h7 k hk').2 hk.size⟩⟩
theorem ProgAt.bel (h : ProgAt n₀ w b M F) (hb : Bel w x) : ProgAt n₀ x b M F := h.keep (Keep.of_bel hb []) (fun _ _ => by simp)
theorem ProgAt.to (h : ProgAt n₀ w b M F) (hb : Bel w x) : ProgTo n₀ w x b M F := ⟨F, h.bel hb, Keep.of_bel hb F, fun k hk => Or.inl hk⟩
end
end Go.Proofs.YtfbiinnenlgkfaaGreatDoor
namespace Go.Proofs.YtfbiinnenlgkfaaGreatDoor
open Go.RowKit Go.Deep

theorem own_len {B : Nat} {w : World} {v : Value} {l : List UInt8} (h : Own B w v l) : ∃ p cap, v = .slice p l.length cap ∧ l.length ≤ cap ∧ (∀ a, p = some a → a = ⟨a.block, 0, none⟩) ∧ (p = none → l.length = 0 ∧ cap = 0) := by
 rcases h.2 with ⟨h1, h0⟩ | ⟨g, cap, cur, rfl, hg, hh, hc, _⟩
 ·exact ⟨none, 0, by rw [h1, h0], by omega, by simp, fun _ => ⟨h0, rfl⟩⟩
 ·exact ⟨_, _, rfl, hc, by simp, by simp⟩
theorem own_first {B : Nat} {w : World} {p : Option Addr} {n cap : Nat} {l : List UInt8} (h : Own B w (.slice p n cap) l) (m : Nat) (hm : m ≤ n) : Own B w (.slice p m cap) (l.take m) := by
 obtain ⟨h1, h2⟩ := h
 rcases h2 with ⟨hv, h0⟩ | ⟨g, cap', cur, hv, hg, hh, hc, hx, hsz, htk⟩
 ·simp only [Value.slice.injEq] at hv
  obtain ⟨rfl, rfl, rfl⟩ := hv
  obtain rfl : m = 0 := by omega
  exact Own.nil B w
 ·simp only [Value.slice.injEq] at hv
  obtain ⟨rfl, hn, rfl⟩ := hv
  have hl : (l.take m).length = m := by rw [List.length_take]; omega
  refine ⟨by rw [hl, Lib.byteCells_length, hl, Nat.mul_one], Or.inr ⟨g, cap, cur, by rw [hl], hg, hh, by omega, hx, hsz, ?_⟩⟩
  rw [hl, Nat.mul_one]
  rw [Nat.mul_one] at htk
  have : Lib.byteCells (l.take m) = (Lib.byteCells l).take m := by simp [Lib.byteCells, List.map_take]
  rw [this, ← htk, List.take_take, Nat.min_eq_left (by omega)]

theorem own_append_string {B : Nat} {w : World} {v : Value} {l : List UInt8} (h : Own B w v l) (s : ByteArray) (ty : TypeId) (hlim : l.length + s.size ≤ 140737488355328) (hbase : B ≤ w.heap.size) :
  ∃ v' w', (Builtin.append_ #[114, 9] ty #[v, .string s]).run Tryz.prog w = .ok v' w' ∧ Own B w' v' (l ++ s.data.toList) ∧ Keep v.ownBlock.toList w w' ∧ (v'.ownBlock = v.ownBlock ∨ v'.ownBlock = some w.heap.size) := by
 obtain ⟨i0, hi, hz0, hz1, hz2⟩ := info_parts infoByte
 obtain ⟨v', w', hr, ho, hg, hnil⟩ := Lib.run_append_own_string (P := Tryz.prog) w B 114 9 ty 5 i0 Tryz.underlying114 Tryz.underlying9 hi hz0 hz1 hz2 v l.length (Lib.byteCells l) h s (by unfold maxLen; omega) hlim hbase
 have hsl : s.data.toList.length = s.size := rfl
 refine ⟨v', w', hr, ?_, (Keep.refl _ w).grown hg (fun r hr => Or.inl (by rw [hr]; simp)), ?_⟩
 ·unfold Own
  rw [List.length_append, Lib.byteCells_append]
  exact ho
 ·rcases h.2 with ⟨rfl, h0⟩ | ⟨g, cap, cur, rfl, hbg, hgg, hnc, hcm, hcs, htk⟩
  ·by_cases hm : s.size = 0
   ·exact Or.inl (by rw [hnil.2 ⟨rfl, hm⟩])
   ·have hr2 := run_append_nil_string (P := Tryz.prog) w 114 9 ty 5 i0 (.int .u8 0) Tryz.underlying114 Tryz.underlying9 hi hz0 s (by omega) (by omega) (by rw [hz2]; omega)
    rw [hr2] at hr
    simp only [Result.ok.injEq] at hr
    exact Or.inr (by rw [← hr.1]; rfl)
  ·by_cases hroom : l.length + s.size ≤ cap
   ·have hr2 := Lib.run_append_room_string (P := Tryz.prog) w 114 9 ty 5 i0 Tryz.underlying114 Tryz.underlying9 hi hz1 g l.length cap cur hgg s hroom (by omega)
    rw [hr2] at hr
    simp only [Result.ok.injEq] at hr
    exact Or.inl (by rw [← hr.1]; rfl)
   ·have hr2 := Lib.run_append_grow_string (P := Tryz.prog) w 114 9 ty 5 i0 (.int .u8 0) Tryz.underlying114 Tryz.underlying9 hi hz0 ⟨g, 0, none⟩ l.length cap (Lib.byteCells l) (by rw [hz1, Lib.byteCells_length]; omega) (World.ownsRow.cells h rfl) s (by omega) (by omega) (by rw [hz2]; exact growslice_fits (by omega) (by omega))
    rw [hr2] at hr
    simp only [Result.ok.injEq] at hr
    exact Or.inr (by rw [← hr.1]; rfl)

set_option maxHeartbeats 1000000 in
theorem issaved_any (w : World) (p : Option Addr) (n cap : Nat) (f : Nat) :
  Calls Tryz.prog 55 #[.agg #[.slice p n cap, .int .i64 f]] w fun e w' => e = .returned (.bool ((f : Int) == (n : Int))) ∧ Bel w w' := by
 go_enter Tryz.func55, Tryz.ntmps55
 go_wp2_with (fail)
 go_ret
 exact ⟨rfl, (Bel.refl w).alloc _⟩
set_option maxHeartbeats 1000000 in
theorem saved_any (w : World) (p : Option Addr) (n cap : Nat) (f : Nat) :
  Calls Tryz.prog 92 #[.agg #[.slice p n cap, .int .i64 f]] w fun e w' => e = .returned (.agg #[.slice p n cap, .int .i64 n]) ∧ Bel w w' := by
 go_enter Tryz.func92, Tryz.ntmps92
 go_wp2_with (fail)
 exact bodyPost_ret (v := .agg #[.slice p n cap, .int .i64 n]) (by simp [results, Tryz.results92, go_sem]) rfl ⟨rfl, by
  exact ((Bel.refl w).alloc _).alloc _⟩
set_option maxHeartbeats 1000000 in
theorem first_any (w : World) (p : Option Addr) (n cap f m : Nat) (hm : m ≤ n) (hn : n ≤ cap) (hc : cap ≤ maxLen) (ha : ∀ a, p = some a → a = ⟨a.block, 0, none⟩) (hp : p = none → n = 0 ∧ cap = 0) :
  Calls Tryz.prog 91 #[.agg #[.slice p n cap, .int .i64 f], .int .i64 m] w fun e w' => e = .returned (.agg #[.slice p m cap, .int .i64 (min f m : Nat)]) ∧ Bel w w' := by
 have hW := Lib.hid (((Bel.refl w).alloc (.cells #[.slice p n cap, .int .i64 f] 116)).alloc (.cells #[.slice none 0 0, .int .i64 0] 116))
 obtain ⟨r, hr⟩ : ∃ r : Nat, r = min f m := ⟨_, rfl⟩
 have hr1 : min (f : Int) (m : Int) = (r : Int) := by omega
 rw [← hr]
 clear hr
 cases p with
 | none =>
  obtain ⟨rfl, rfl⟩ := hp rfl
  obtain rfl : m = 0 := by omega
  go_enter Tryz.func91, Tryz.ntmps91
  go_wp2_with (fail)
  go_region
  go_wp2_with (fail)
  exact bodyPost_ret (v := .agg #[.slice none 0 0, .int .i64 (min (f : Int) 0)]) (by simp [results, Tryz.results91, go_sem]) rfl ⟨by rw [← hr1]; rfl, (((Bel.refl w).alloc _).alloc _).drew⟩
 | some a =>
  have := ha a rfl
  generalize a.block = g at this
  subst this
  clear ha hp
  unfold maxLen at hc
  go_enter Tryz.func91, Tryz.ntmps91
  go_wp2_with (fail)
  go_region
  go_wp2_with (fail)
  exact bodyPost_ret (v := .agg #[.slice (some ⟨g, 0, none⟩) m cap, .int .i64 r]) (by simp [results, Tryz.results91, go_sem]) rfl ⟨rfl, (((Bel.refl w).alloc _).alloc _).drew⟩

theorem step_append_str {B : Nat} {ops : Array Oper} {o : Oper} {a : Act} {K : Act → World → Prop} {Q : Exit → Act → World → Prop} {E : Prop} {x : World} (hgd : o.guard = none) (s y : Operand)
  (ho : o.op = .call { callee := .builtin .append, args := #[s, y], argTypes := #[114, 9] }) {v : Value} {l : List UInt8} {t : ByteArray}
  (hs : a.eval s = v) (hy : a.eval y = .string t) (hown : Own B x v l) (hlim : l.length + t.size ≤ 140737488355328) (hbase : B ≤ x.heap.size)
  (h : ∀ v' w', Own B w' v' (l ++ t.data.toList) → Keep v.ownBlock.toList x w' → (v'.ownBlock = v.ownBlock ∨ v'.ownBlock = some x.heap.size) → K (a.put o.dst v') w') : if Region.wanted o (yielded ops a.tmps) = true then o.wp Tryz.prog a x K Q else E := by
 rw [if_pos (by simp [Region.wanted, hgd])]
 obtain ⟨v', w', hr, h1, h2, h3⟩ := own_append_string hown t o.type hlim hbase
 unfold Oper.wp execOp
 simp only [ho, resolve, invoke, builtin, Sem.run_bind, Sem.run_pure, Result.andThen_ok, List.map_toArray, List.map_cons, List.map_nil, hs, hy, hr]
 exact h v' w' h1 h2 h3
theorem own_old {B : Nat} {w : World} {v : Value} {l : List UInt8} (h : Own B w v l) {k : Nat} (hk : w.heap.size ≤ k) : k ∉ v.ownBlock.toList := by
 intro hm
 rw [Option.mem_toList] at hm
 have := (h.lt k hm).2
 omega

set_option maxHeartbeats 4000000 in
theorem extended_any (B : Nat) (w : World) (v : Value) (l : List UInt8) (f : Nat) (t : ByteArray) (h : Own B w v l) (hlim : l.length + t.size ≤ 140737488355328) (hB : B ≤ w.heap.size) :
    Calls Tryz.prog 63 #[.agg #[v, .int .i64 f], .string t] w fun e w' => ∃ v', e = .returned (.agg #[v', .int .i64 f]) ∧ Own B w' v' (l ++ t.data.toList) ∧ Keep v.ownBlock.toList w w' ∧
      (∀ k, v'.ownBlock = some k → v.ownBlock = some k ∨ w.heap.size ≤ k) := by
  obtain ⟨p, cap, rfl, -⟩ := own_len h
  have H := Lib.hid h
  clear h
  obtain ⟨n, hn⟩ : ∃ n, n = l.length := ⟨_, rfl⟩
  have hl := Lib.hid hn
  rw [← hn] at H hlim ⊢
  clear hn
  go_enter Tryz.func63, Tryz.ntmps63
  go_wp2_with (fail)
  go_region_held_law (fun y => y.cell? ⟨w.heap.size, 0, none⟩ = some (.slice p n cap) ∧ y.cell? ⟨w.heap.size, 1, none⟩ = some (.int .i64 f) ∧ w.heap.size + 1 < y.heap.size ∧ y.frozen? ⟨w.heap.size + 1, 0, none⟩ = false ∧ y.frozen? ⟨w.heap.size + 1, 1, none⟩ = false)
    (first
      | assumption
      | exact ⟨by assumption, by assumption, by assumption, by assumption, by assumption⟩
      | (refine ⟨by go_simp, by go_simp, by first | (simp; done) | (simp; assumption), by go_simp, by go_simp⟩; done))
    (first
      | (refine step_append_str (B := B) (v := .slice p n cap) (l := l) rfl (.tmp 6) (.tmp 7) rfl rfl rfl (by exact (H.out.alloc _).alloc _) (by rw [← hl.out]; exact hlim) (by simp; omega) ?_; intro v' w' ho hk hlc
         obtain ⟨p', cap', hv', -⟩ := own_len ho
         subst hv'
         have k0 : w'.cell? ⟨w.heap.size, 0, none⟩ = some (.slice p n cap) := hk.cell (by go_simp) (own_old H.out (Nat.le_refl _))
         have k1 : w'.cell? ⟨w.heap.size, 1, none⟩ = some (.int .i64 f) := hk.cell (by go_simp) (own_old H.out (Nat.le_refl _))
         have k2 : w.heap.size + 1 < w'.heap.size := by have := hk.size; simp at this; omega
         have k3 : w'.frozen? ⟨w.heap.size + 1, 0, none⟩ = false := (hk.frozen (by simp) (own_old H.out (Nat.le_succ _))).trans (by go_simp)
         have k4 : w'.frozen? ⟨w.heap.size + 1, 1, none⟩ = false := (hk.frozen (by simp) (own_old H.out (Nat.le_succ _))).trans (by go_simp)
         have k5 : w'.cell? ⟨w.heap.size + 1, 0, none⟩ = some (.slice none 0 0) := hk.cell (by go_simp) (own_old H.out (Nat.le_succ _))
         have k6 : w'.cell? ⟨w.heap.size + 1, 1, none⟩ = some (.int .i64 0) := hk.cell (by go_simp) (own_old H.out (Nat.le_succ _))
         have hK0 := Lib.hid hk
         have hO := Lib.hid ho
         have hL := Lib.hid hlc
         clear hk ho hlc)
      | fail)
  go_wp2_with (fail)
  have hlen : (l ++ t.data.toList).length = l.length + t.size := by rw [List.length_append]; rfl
  rw [hlen] at hO hL
  have hnew : w.heap.size + 1 ∉ (Value.slice p' (l.length + t.size) cap').ownBlock.toList := by
    intro hm
    rw [Option.mem_toList] at hm
    rcases hL.out with h1 | h1
    · rw [h1] at hm
      have := (H.out.lt _ hm).2
      omega
    · rw [h1] at hm
      simp at hm
  have hkk : Keep [w.heap.size + 1] w' ((w'.setCell ⟨w.heap.size + 1, 0, none⟩ (.slice p' (l.length + t.size) cap')).setCell ⟨w.heap.size + 1, 1, none⟩ (.int .i64 f)) :=
    ((Keep.refl _ w').setCell (p := ⟨w.heap.size + 1, 0, none⟩) (Or.inl (by simp)) _).setCell (p := ⟨w.heap.size + 1, 1, none⟩) (Or.inl (by simp)) _
  exact bodyPost_ret (v := .agg #[.slice p' (l.length + t.size) cap', .int .i64 f]) (by simp [results, Tryz.results63, go_sem, k5, k6, World.cell?_setCell_other]) rfl ⟨_, rfl, hO.out.keep hkk (fun k h1 h2 => by
      rw [List.mem_singleton] at h2
      subst h2
      exact hnew (by rw [Option.mem_toList]; exact h1)),
    ((((Keep.of_bel (((Bel.refl w).alloc _).alloc _).drew _).trans hK0.out (fun x hx => Or.inl hx)).setCell (p := ⟨w.heap.size + 1, 0, none⟩) (Or.inr (by simp)) _).setCell (p := ⟨w.heap.size + 1, 1, none⟩) (Or.inr (by simp)) _), fun k hk => by
      rcases hL.out with h1 | h1
      · left; rw [← h1]; exact hk
      · right
        rw [h1] at hk
        simp at hk
        omega⟩

set_option maxHeartbeats 4000000 in
theorem isname_any (s : ByteArray) (w : World) (hs : s.size ≤ maxLen) :
  Calls Tryz.prog 97 #[.string s] w fun e w' => e = .returned (.bool (nameB s.data.toList)) ∧ Drw w w' := by
 unfold maxLen at hs
 have hsl : s.data.toList.length = s.size := rfl
 by_cases h0 : s.size = 0
 ·obtain rfl : s = ⟨#[]⟩ := by
   obtain ⟨d⟩ := s
   simp [ByteArray.size] at h0
   rw [h0]
  have HN := Lib.hid (show nameB ((⟨#[]⟩ : ByteArray)).data.toList = false from rfl)
  clear hsl h0
  go_enter Tryz.func97, Tryz.ntmps97
  go_wp2_with (fail)
  go_ret
  exact ⟨by rw [HN.out]; rfl, Drw.refl w⟩
 have hne : s.toList.isEmpty = false := by
  rw [ByteArray.toList_eq]
  cases hd : s.data.toList with
  | nil => rw [hd] at hsl; simp at hsl; omega
  | cons => rfl
 by_cases h24 : 24 < s.size
 ·have HN := Lib.hid (show nameB s.data.toList = false by
   unfold nameB
   rw [hsl]
   simp; omega)
  clear hsl
  go_enter Tryz.func97, Tryz.ntmps97
  go_wp2_with (fail)
  go_ret
  exact ⟨by rw [HN.out]; rfl, Drw.refl w⟩
 go_enter Tryz.func97, Tryz.ntmps97
 go_wp2_with (fail)
 go_loopw [14] (fun i x => NmRel s.data.toList i ∧ Drw w x) (fun i _ => s.size - (intOf i).toNat)
 case atStart => exact ⟨⟨0, rfl, Nat.zero_le _, rfl⟩, Drw.refl w⟩
 case round =>
  obtain ⟨⟨k, rfl, hk, hall⟩, hw⟩ := hrel
  have HW := Lib.hid hw; clear hw
  have HA := Lib.hid hall; clear hall
  rw [hsl] at hk
  by_cases hlt : k < s.size
  ·have HG := Lib.hid (show k < s.data.toList.length from hlt)
   have HB := Lib.hid (show letB s[k] = false → nameB s.data.toList = false from fun h => name_bad s.data.toList k hlt h)
   have HT := Lib.hid (show letB s[k] = true → (s.data.toList.take (k + 1)).all letB = true from fun h => all_take s.data.toList k hlt HA.out h)
   rcases let_ways s[k] with ⟨hl, h1, h2⟩ | ⟨hl, h1, h2, h3⟩ | ⟨hl, h1, h2, h3⟩ | ⟨hl, h1, h2, h3⟩ | ⟨hl, h1, h2, h3, h4⟩ | ⟨hl, h1, h2, h3, h4, h5⟩
   ·have HT2 := Lib.hid (HT.out hl); clear hl
    have h6 : ((s[k].toNat : Int) != 46) = true := by rw [bne_iff_ne]; omega
    have h7 : ¬ (s[k].toNat : Int) < 48 := by omega
    have h8 : (57 : Int) < (s[k].toNat : Int) := by omega
    go_wp2_with (fail)
    go_roundw
    case rel => exact ⟨⟨k + 1, by go_num, by omega, HT2.out⟩, HW.out⟩
    case measure => simp [intOf]; omega
   ·have HT2 := Lib.hid (HT.out hl); clear hl
    have h6 : ((s[k].toNat : Int) != 46) = true := by rw [bne_iff_ne]; omega
    go_wp2_with (fail)
    go_roundw
    case rel => exact ⟨⟨k + 1, by go_num, by omega, HT2.out⟩, HW.out⟩
    case measure => simp [intOf]; omega
   ·have HT2 := Lib.hid (HT.out hl); clear hl
    have h6 : ((s[k].toNat : Int) != 46) = false := by simp [bne, *]
    go_wp2_with (fail)
    go_roundw
    case rel => exact ⟨⟨k + 1, by go_num, by omega, HT2.out⟩, HW.out⟩
    case measure => simp [intOf]; omega
   ·have HT2 := Lib.hid (HB.out hl); clear hl
    have h6 : ((s[k].toNat : Int) != 46) = true := by simp [bne, *]
    go_wp2_with (fail)
    case roundEnd => exfalso; rename_i h; clear h6; simp at *; omega
    go_ret
    exact ⟨by rw [HT2.out]; rfl, HW.out⟩
   ·have HT2 := Lib.hid (HB.out hl); clear hl
    have h6 : ((s[k].toNat : Int) != 46) = true := by simp [bne, *]
    go_wp2_with (fail)
    case roundEnd => exfalso; rename_i h; clear h6; simp at *; omega
    go_ret
    exact ⟨by rw [HT2.out]; rfl, HW.out⟩
   ·have HT2 := Lib.hid (HB.out hl); clear hl
    have h6 : ((s[k].toNat : Int) != 46) = true := by simp [bne, *]
    go_wp2_with (fail)
    case roundEnd => exfalso; rename_i h; clear h6; simp at *; omega
    go_ret
    exact ⟨by rw [HT2.out]; rfl, HW.out⟩
  ·obtain rfl : k = s.size := by omega
   have HN := Lib.hid (show nameB s.data.toList = true by
    have h := HA.out
    rw [← hsl, List.take_length] at h
    unfold nameB
    rw [h, hsl, Bool.true_and]
    simp; omega)
   go_wp2_with (fail)
   go_ret
   exact ⟨by rw [HN.out]; rfl, HW.out⟩

set_option maxHeartbeats 2000000 in
theorem pat_any (w : World) (p : Option Addr) (cap : Nat) (L : List Int) (k : Nat) (h : IntsAt w p L) (hL : L.length ≤ maxLen) (hk : k ≤ 1000000) :
  Calls Tryz.prog 57 #[.slice p L.length cap, .int .i64 k] w fun e w' => e = .returned (.int .i64 (atN L k)) ∧ Drw w w' := by
 have H := Lib.hid h; clear h
 unfold maxLen at hL
 by_cases hlt : k < L.length
 ·obtain ⟨a, rfl, hc⟩ := H.out k hlt
  have HA := Lib.hid (show atN L k = L[k] by unfold atN; rw [List.getElem?_eq_getElem hlt]; rfl)
  go_enter Tryz.func57, Tryz.ntmps57
  go_wp2_with (fail)
  go_ret
  exact ⟨ret_int (by rw [HA.out]), Drw.refl w⟩
 ·have HA := Lib.hid (show atN L k = 0 by unfold atN; rw [List.getElem?_eq_none (by omega)]; rfl)
  go_enter Tryz.func57, Tryz.ntmps57
  go_wp2_with (fail)
  go_ret
  exact ⟨ret_int (by rw [HA.out]), Drw.refl w⟩

theorem pnew_any (room : Int) (w : World) (h : 0 ≤ room ∧ room ≤ 10000000) :
  Calls Tryz.prog 33 #[.int .i64 room] w fun e w' => e = .returned (.tuple #[.pointer (some ⟨w.heap.size, 0, none⟩), .int .i64 0]) ∧
   ProgAt w.heap.size w' w.heap.size (newS room) [w.heap.size] ∧ Bel w w' := by
 obtain ⟨h1, h2⟩ := h
 go_enter Tryz.func33, Tryz.ntmps33
 go_wp2_with (fail)
 go_ret2
 exact ⟨rfl, ⟨⟨.map none, 0, heap_alloc_new w _, fun h => by simp [newS] at h, by simp [in64], Or.inl ⟨rfl, rfl⟩⟩, Nat.le_refl _, by simp, fun k hk => by
  rw [List.mem_singleton] at hk
  subst hk
  simp⟩, (Bel.refl w).alloc _⟩
theorem dead_any (n₀ : Nat) (w : World) (b : Nat) (M : RS) (F : List Nat) (h : ProgAt n₀ w b M F) :
  Calls Tryz.prog 26 #[.pointer (some ⟨b, 0, none⟩)] w fun e w' => e = .returned (.bool M.gone) ∧ Drw w w' := by
 obtain ⟨⟨mv, t, hb, -⟩, -⟩ := h
 have c4 : w.cell? ⟨b, 4, none⟩ = some (.bool M.gone) := by simp [World.cell?, hb]
 go_enter Tryz.func26, Tryz.ntmps26
 go_wp2_with (fail)
 go_ret
 exact ⟨rfl, Drw.refl w⟩
theorem ProgAt.set2 {n₀ : Nat} {w : World} {b : Nat} {M M' : RS} {F : List Nat} (h : ProgAt n₀ w b M F) {x : World} (hx : ∀ mv t, w.heap[b]? = some (.cells #[.int .i64 M.room, mv, .bool (decide (0 ≤ M.turns)), .int .i64 t, .bool M.gone] 113 (0, 0)) → (0 ≤ M.turns → t = M.turns) → in64 t →
      ∃ t', x.heap[b]? = some (.cells #[.int .i64 M'.room, mv, .bool (decide (0 ≤ M'.turns)), .int .i64 t', .bool M'.gone] 113 (0, 0)) ∧ (0 ≤ M'.turns → t' = M'.turns) ∧ in64 t') (hL : M'.L = M.L) (hk : Keep [b] w x) :
    ProgTo n₀ w x b M' F := by
  obtain ⟨⟨mv, t, hb, ht, h64, hf⟩, hl, hm, hw⟩ := h
  obtain ⟨t', hb', ht', h64'⟩ := hx mv t hb ht h64
  have hfb : FilesAt n₀ x mv M'.L F := by
    rw [hL]
    rcases hf with hf | ⟨mb, D, V, rfl, hV, hmF, hvF⟩
    · exact Or.inl hf
    · refine Or.inr ⟨mb, D, V, rfl, hV.keep hk ?_ ?_, hmF, hvF⟩
      · intro hm
        rw [List.mem_singleton] at hm
        subst hm
        obtain ⟨es, clock, hmm, _⟩ := hV.own
        rw [hb] at hmm; cases hmm
      · intro y hy _ k hk1 hk2
        rw [List.mem_singleton] at hk2
        subst hk2
        rcases (hV.val y hy (by simp)).2 with ⟨h1, _⟩ | ⟨g, cap, cur, h1, _, hgb, _⟩
        · rw [h1] at hk1; cases hk1
        · rw [h1] at hk1
          obtain rfl : g = k := by simpa [Value.ownBlock] using hk1
          rw [hb] at hgb
          simp at hgb
  exact ⟨F, ⟨⟨mv, t', hb', ht', h64', hfb⟩, hl, hm, fun k hk' => ⟨(hw k hk').1, Nat.lt_of_lt_of_le (hw k hk').2 hk.size⟩⟩, hk.mono (fun k hk => by rw [List.mem_singleton] at hk; rw [hk]; exact hm), fun k hk => Or.inl hk⟩

theorem plimit_any (n₀ : Nat) (w : World) (b : Nat) (M : RS) (F : List Nat) (t : Int) (h : ProgAt n₀ w b M F) (ht : in64 t) :
  Calls Tryz.prog 28 #[.pointer (some ⟨b, 0, none⟩), .int .i64 t] w fun e w' => (∃ u, e = .returned u) ∧ ProgTo n₀ w w' b (limS t M) F := by
 have H := Lib.hid h
 obtain ⟨⟨mv, t0, hb, -⟩, -⟩ := h
 have c2 : w.cell? ⟨b, 2, none⟩ = some (.bool (decide (0 ≤ M.turns))) := by simp [World.cell?, hb]
 have c3 : w.cell? ⟨b, 3, none⟩ = some (.int .i64 t0) := by simp [World.cell?, hb]
 have f2 : w.frozen? ⟨b, 2, none⟩ = false := by simp [World.frozen?, hb]
 have f3 : w.frozen? ⟨b, 3, none⟩ = false := by simp [World.frozen?, hb]
 have HT := Lib.hid ht
 clear ht hb
 go_enter Tryz.func28, Tryz.ntmps28
 go_wp2_with (fail)
 go_end0
 exact ⟨⟨_, rfl⟩, H.out.set2 (M' := limS t M) (fun mv' t' hb' ht' h64 => ⟨t, by
   rw [blk_set (blk_set hb' 2 _) 3 _]
   have e : decide (0 ≤ (limS t M).turns) = decide (0 ≤ t) := by
    rw [decide_eq_decide]; unfold limS; simp only []; split <;> omega
   rw [e]; rfl, fun h => by revert h; unfold limS; simp only []; split <;> intros <;> omega, HT.out⟩) rfl
  (((Keep.refl _ w).setCell (p := ⟨b, 2, none⟩) (Or.inl (by simp)) _).setCell (p := ⟨b, 3, none⟩) (Or.inl (by simp)) _)⟩
end Go.Proofs.YtfbiinnenlgkfaaGreatDoor
