/- The program's files: a map of names to bytes that lie in rows of their own; what a look-up, a store, a delete make of it. -/
import Derived.Test.YtedopiojidaeiaaFMath
import Derived.Test.YtedopiojidaeiaaOwn
import Derived.Maps.OwnSet
import Derived.Maps.RangeWalk
import Derived.Sort.KeysCollected
set_option linter.unusedSimpArgs false
set_option linter.unusedVariables false
namespace Go.Proofs.Ytedopiojidaeiaa
open Go.RowKit Go.Deep Go.Maps

/-- An element of the map as the value that it is. -/
def RV (v : Value) : Option (DataW Value × List MemPlace) := some (.held v, [])
def conV (v : Value) (n : Nat) : Value := .agg #[v, .int .i64 n]
def conZ : Value := .agg #[.slice none 0 0, .int .i64 0]
theorem keyLaw : Keyed Try.prog 9 := string_keyed Try.underlying9
theorem zeroCon (w : World) : (zeroValue 56).run Try.prog w = .ok conZ w := by kernel_rfl
theorem key_is (s : ByteArray) (h : s.size ≤ maxLen) : keyOf Try.prog 9 (.string s) = some (.string s.data.toList) := WideMaps.keyOf_string_mk Try.underlying9 h
theorem key_lit (nm : List UInt8) : WideAt.IsKeyLit (.string nm) := by trivial

theorem Own.keep {B : Nat} {w x : World} {v : Value} {l : List UInt8} {F : List Nat} (h : Own B w v l) (hk : Keep F w x) (hF : ∀ k, v.ownBlock = some k → k ∉ F) : Own B x v l := by
  obtain ⟨h1, h2⟩ := h
  refine ⟨h1, ?_⟩
  rcases h2 with h2 | ⟨g, cap, cur, rfl, hg, hh, r⟩
  · exact Or.inl h2
  · exact Or.inr ⟨g, cap, cur, rfl, hg, hk.at hh (hF g rfl), r⟩
theorem owns_keep {w x : World} {R : Value → Option (DataW Value × List MemPlace)} {k : TypeId} {b n : Nat} {D : DataW Value} {F : List Nat} (h : w.ownsMap Try.prog k R b n D) (hk : Keep F w x) (hb : b ∉ F) : x.ownsMap Try.prog k R b n D := by
  obtain ⟨es, clock, hm, r⟩ := h
  exact ⟨es, clock, hk.at hm hb, r⟩
theorem owns_tight {w : World} {R : Value → Option (DataW Value × List MemPlace)} {k : TypeId} {b n m : Nat} {D : DataW Value} (h : w.ownsMap Try.prog k R b n D) (hm : Maps.size D = m) : w.ownsMap Try.prog k R b m D := by
  obtain ⟨es, clock, hb, F, hs, hD⟩ := h
  refine ⟨es, clock, hb, F, ?_, hD⟩
  rw [← hm, hD]
  simp [Maps.size, length_sorted]
theorem keep_turned {w x : World} {b : Nat} (h : w.mapTurned x b) : Keep [b] w x := (Keep.refl [b] w).grown h.grown (fun r hr => by cases hr; exact Or.inl (by simp))

/-- Block mb is the map of the files L: the bytes of each name lie in the slice V says; but for the name e. -/
structure FilesV (n₀ : Nat) (w : World) (mb : Nat) (D : DataW Value) (V : List UInt8 → Value) (L : List FI) (e : Option (List UInt8)) : Prop where
  own : w.ownsMap Try.prog 9 RV mb L.length D
  low : n₀ ≤ mb
  size : Maps.size D = L.length
  has : ∀ nm, Maps.has D (.string nm) = (getF nm L).isSome
  at_ : ∀ x ∈ L, ∀ zd, D.atKey (.string x.name) zd = .held (conV (V x.name) x.safe)
  val : ∀ x ∈ L, some x.name ≠ e → Own n₀ w (V x.name) x.bytes
  apart : ∀ x ∈ L, ∀ y ∈ L, x.name ≠ y.name → ∀ k, (V x.name).ownBlock = some k → (V y.name).ownBlock ≠ some k
section
variable {n₀ : Nat} {w x : World} {mb : Nat} {D : DataW Value} {V : List UInt8 → Value} {L : List FI} {e : Option (List UInt8)}

theorem FilesV.lt (h : FilesV n₀ w mb D V L e) : mb < w.heap.size := h.own.lt
/-- A map's block is no row's. -/
theorem FilesV.ne_row (h : FilesV n₀ w mb D V L e) {v : Value} {l : List UInt8} (ho : Own n₀ w v l) : v.ownBlock ≠ some mb := by
  intro hk
  obtain ⟨es, clock, hm, _⟩ := h.own
  rcases ho.2 with ⟨rfl, _⟩ | ⟨g, cap, cur, rfl, _, hgb, _⟩
  · simp [Value.ownBlock] at hk
  · obtain rfl : g = mb := by simpa [Value.ownBlock] using hk
    rw [hm] at hgb; cases hgb
theorem FilesV.keep {F : List Nat} (h : FilesV n₀ w mb D V L e) (hk : Keep F w x) (hb : mb ∉ F) (hv : ∀ y ∈ L, some y.name ≠ e → ∀ k, (V y.name).ownBlock = some k → k ∉ F) : FilesV n₀ x mb D V L e :=
  ⟨owns_keep h.own hk hb, h.low, h.size, h.has, h.at_, fun y hy he => (h.val y hy he).keep hk (hv y hy he), h.apart⟩
theorem FilesV.bel (h : FilesV n₀ w mb D V L e) (hb : Bel w x) : FilesV n₀ x mb D V L e := h.keep (Keep.of_bel hb []) (by simp) (fun _ _ _ _ _ => by simp)
/-- What is written is the row of one name. -/
theorem FilesV.but {y : FI} (h : FilesV n₀ w mb D V L none) (hy : y ∈ L) (hk : Keep (V y.name).ownBlock.toList w x) : FilesV n₀ x mb D V L (some y.name) := by
  have hm : mb ∉ (V y.name).ownBlock.toList := by
    intro hm
    rw [Option.mem_toList] at hm
    exact h.ne_row (h.val y hy (by simp)) hm
  refine ⟨owns_keep h.own hk hm, h.low, h.size, h.has, h.at_, fun z hz he => (h.val z hz (by simp)).keep hk fun k hk1 hk2 => ?_, h.apart⟩
  rw [Option.mem_toList] at hk2
  exact h.apart z hz y hy (fun e => he (by rw [e])) k hk1 hk2
theorem FilesV.weak (h : FilesV n₀ w mb D V L none) (nm : List UInt8) : FilesV n₀ w mb D V L (some nm) := ⟨h.own, h.low, h.size, h.has, h.at_, fun y hy _ => h.val y hy (by simp), h.apart⟩
theorem FilesV.nil (w : World) (V : List UInt8 → Value) (hn : n₀ ≤ w.heap.size) : FilesV n₀ (w.alloc (.map #[] 0)) w.heap.size (.map []) V [] none :=
  ⟨World.ownsMap_made _ _ _ _, hn, rfl, fun _ => rfl, (fun x hx => by cases hx), (fun x hx => by cases hx), (fun x hx => by cases hx)⟩
theorem FilesV.at_none (h : FilesV n₀ w mb D V L e) {nm : List UInt8} (hn : getF nm L = none) (zd : DataW Value) : D.atKey (.string nm) zd = zd :=
  Maps.atKey_of_not_has (by rw [h.has, hn]; rfl) zd
theorem FilesV.at_some (h : FilesV n₀ w mb D V L e) {nm : List UInt8} {y : FI} (hn : getF nm L = some y) (zd : DataW Value) : D.atKey (.string nm) zd = .held (conV (V nm) y.safe) := by
  have := h.at_ y (getF_mem hn) zd
  rwa [getF_name hn] at this
/-- A file's store. -/
theorem FilesV.put (hs : Srt L) {y : FI} {v' : Value} {n : Nat} (h : FilesV n₀ w mb D V L (some y.name))
    (hw : x.ownsMap Try.prog 9 RV mb n (D.put (.string y.name) (.held (conV v' y.safe)))) (hk : Keep [mb] w x) (ho : Own n₀ x v' y.bytes)
    (hap : ∀ z ∈ L, z.name ≠ y.name → ∀ k, v'.ownBlock = some k → (V z.name).ownBlock ≠ some k) :
    FilesV n₀ x mb (D.put (.string y.name) (.held (conV v' y.safe))) (fun nm => if nm = y.name then v' else V nm) (insS y L) none := by
  have hsz : Maps.size (D.put (.string y.name) (.held (conV v' y.safe))) = (insS y L).length := by
    rw [Maps.size_put (h.own.tidy keyLaw), h.has, h.size, len_ins y hs]
  refine ⟨owns_tight hw hsz, h.low, hsz, fun nm => ?_, fun z hz zd => ?_, fun z hz _ => ?_, fun z hz z' hz' hne k => ?_⟩
  · rw [getF_ins y hs]
    by_cases he : nm = y.name
    · rw [if_pos he, he, Maps.has_put_same h.own.isMap (key_lit _)]; rfl
    · rw [if_neg he, Maps.has_put_other (by simpa using he), h.has]
  · rcases mem_ins hz with rfl | hz
    · simp only [if_true]
      rw [Maps.atKey_put_same h.own.isMap (key_lit _)]
    · have hg := getF_of_mem (srt_ins y hs) (by assumption : z ∈ insS y L)
      rw [getF_ins y hs] at hg
      by_cases he : z.name = y.name
      · rw [if_pos he] at hg
        obtain rfl : y = z := by simpa using hg
        simp only [if_true]
        rw [Maps.atKey_put_same h.own.isMap (key_lit _)]
      · simp only [if_neg he]
        rw [Maps.atKey_put_other (by simpa using he)]
        exact h.at_ z hz zd
  · have hg := getF_of_mem (srt_ins y hs) hz
    rw [getF_ins y hs] at hg
    by_cases he : z.name = y.name
    · rw [if_pos he] at hg
      obtain rfl : y = z := by simpa using hg
      simp only [if_true]
      exact ho
    · rw [if_neg he] at hg
      have hzL := getF_mem hg
      simp only [if_neg he]
      have := h.val z hzL (by simpa using he)
      exact this.keep hk (fun k hk1 hk2 => by
        rw [List.mem_singleton] at hk2
        subst hk2
        exact h.ne_row this hk1)
  · have mem : ∀ z ∈ insS y L, z.name ≠ y.name → z ∈ L := fun z hz he => by
      rcases mem_ins hz with rfl | hz
      · exact absurd rfl he
      · exact hz
    by_cases he : z.name = y.name
    · have he' : z'.name ≠ y.name := fun e => hne (he.trans e.symm)
      simp only [if_pos he, if_neg he']
      exact hap z' (mem z' hz' he') he' k
    · by_cases he' : z'.name = y.name
      · simp only [if_neg he, if_pos he']
        intro h1 h2
        exact hap z (mem z hz he) he k h2 h1
      · simp only [if_neg he, if_neg he']
        exact h.apart z (mem z hz he) z' (mem z' hz' he') hne k
/-- A file's delete. -/
theorem FilesV.del (hs : Srt L) {nm : List UInt8} {n : Nat} (h : FilesV n₀ w mb D V L none) (hw : x.ownsMap Try.prog 9 RV mb n (D.del (.string nm))) (hk : Keep [mb] w x) :
    FilesV n₀ x mb (D.del (.string nm)) V (outS nm L) none := by
  have hsz : Maps.size (D.del (.string nm)) = (outS nm L).length := by
    have := Maps.size_del (k := .string nm) (h.own.tidy keyLaw)
    rw [h.has, h.size] at this
    rw [len_out nm hs]
    split at this <;> rename_i hc
    · rw [if_pos hc]; omega
    · rw [if_neg hc]; omega
  have ne : ∀ z ∈ outS nm L, z.name ≠ nm := fun z hz e => by
    have hg := getF_of_mem (srt_out nm hs) hz
    rw [getF_out nm hs, if_pos e] at hg
    cases hg
  refine ⟨owns_tight hw hsz, h.low, hsz, fun m => ?_, fun z hz zd => ?_, fun z hz _ => ?_, fun z hz z' hz' hne k => h.apart z (mem_out hz) z' (mem_out hz') hne k⟩
  · rw [getF_out nm hs]
    by_cases he : m = nm
    · rw [if_pos he, he, Maps.has_del_same]; rfl
    · rw [if_neg he, Maps.has_del_other (by simpa using he), h.has]
  · rw [Maps.atKey_del_other (by simpa using ne z hz)]
    exact h.at_ z (mem_out hz) zd
  · have := h.val z (mem_out hz) (by simp)
    exact this.keep hk (fun k hk1 hk2 => by
      rw [List.mem_singleton] at hk2
      subst hk2
      exact h.ne_row this hk1)
end
/-- The map's value holds the files; F: the blocks that they lie in. -/
def FilesAt (n₀ : Nat) (w : World) (mv : Value) (L : List FI) (F : List Nat) : Prop :=
  (mv = .map none ∧ L = []) ∨ ∃ mb D V, mv = .map (some mb) ∧ FilesV n₀ w mb D V L none ∧ mb ∈ F ∧ ∀ y ∈ L, ∀ k, (V y.name).ownBlock = some k → k ∈ F
/-- The program's files lie at block b; F: the blocks that they lie in. -/
structure ProgAt (n₀ : Nat) (w : World) (b : Nat) (M : RS) (F : List Nat) : Prop where
  ex : ∃ mv t, w.heap[b]? = some (.cells #[.int .i64 M.room, mv, .bool (decide (0 ≤ M.turns)), .int .i64 t, .bool M.gone] 49 (0, 0)) ∧ (0 ≤ M.turns → t = M.turns) ∧ in64 t ∧ FilesAt n₀ w mv M.L F
  low : n₀ ≤ b
  mem : b ∈ F
  within : ∀ k ∈ F, n₀ ≤ k ∧ k < w.heap.size
/-- What a call made of them. -/
def ProgTo (n₀ : Nat) (w x : World) (b : Nat) (M : RS) (F : List Nat) : Prop := ∃ G, ProgAt n₀ x b M G ∧ Keep F w x ∧ ∀ k ∈ G, k ∈ F ∨ w.heap.size ≤ k
section
variable {n₀ : Nat} {w x : World} {b : Nat} {M : RS} {F : List Nat} {mv : Value} {L : List FI}
theorem FilesAt.keep {G : List Nat} (h : FilesAt n₀ w mv L F) (hk : Keep G w x) (hG : ∀ k ∈ F, k ∉ G) : FilesAt n₀ x mv L F := by
  rcases h with h | ⟨mb, D, V, rfl, h, hm, hv⟩
  · exact Or.inl h
  · exact Or.inr ⟨mb, D, V, rfl, h.keep hk (hG mb hm) (fun y hy _ k hk1 => hG k (hv y hy k hk1)), hm, hv⟩
theorem FilesAt.bel (h : FilesAt n₀ w mv L F) (hb : Bel w x) : FilesAt n₀ x mv L F := h.keep (Keep.of_bel hb []) (fun _ _ => by simp)
theorem ProgAt.keep {G : List Nat} (h : ProgAt n₀ w b M F) (hk : Keep G w x) (hG : ∀ k ∈ F, k ∉ G) : ProgAt n₀ x b M F := by
  obtain ⟨⟨mv, t, h1, h2, h3, h4⟩, h5, h6, h7⟩ := h
  exact ⟨⟨mv, t, hk.at h1 (hG b h6), h2, h3, h4.keep hk hG⟩, h5, h6, fun k hk' => ⟨(h7 k hk').1, Nat.lt_of_lt_of_le (h7 k hk').2 hk.size⟩⟩
theorem ProgAt.bel (h : ProgAt n₀ w b M F) (hb : Bel w x) : ProgAt n₀ x b M F := h.keep (Keep.of_bel hb []) (fun _ _ => by simp)
theorem ProgAt.to (h : ProgAt n₀ w b M F) (hb : Bel w x) : ProgTo n₀ w x b M F := ⟨F, h.bel hb, Keep.of_bel hb F, fun k hk => Or.inl hk⟩
end
end Go.Proofs.Ytedopiojidaeiaa
