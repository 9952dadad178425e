import Derived.Test.YtmdcmpkjhflgpaaH0
import Derived.Deep.RegionHeld
namespace Go.Proofs.Ytmdcmpkjhflgpaa
open Go.RowKit

/-- a frame -/
structure Fr where
  s : Int
  h : Nat
  d : Bool
  k : Int
  w : Nat → Nat
def Fr.nil : Fr := ⟨0, 0, false, 0, fun _ => 0⟩
def Fr.new (s : Int) : Fr := ⟨s, 1, true, 0, fun _ => 0⟩
/-- a page's cells -/
def page (w : Nat → Nat) : List Value := (List.range 32).map fun i => .int .u32 (w i : Nat)
def Fr.head (f : Fr) : List Value := [.int .i64 f.s, .int .i64 (f.h : Nat), .bool f.d, .int .i64 f.k]
def Fr.cells (f : Fr) : List Value := f.head ++ page f.w
theorem page_len (w : Nat → Nat) : (page w).length = 32 := by simp [page]
theorem page_get (w : Nat → Nat) {i : Nat} (h : i < 32) : (page w)[i]? = some (.int .u32 (w i : Nat)) := by simp [page, h]
theorem page_one (w : Nat → Nat) : ∀ u ∈ page w, u.oneCell' = true := by
  intro u hu; simp only [page, List.mem_map] at hu; obtain ⟨i, _, rfl⟩ := hu; rfl
theorem page_congr {w w' : Nat → Nat} (h : ∀ i, i < 32 → w i = w' i) : page w = page w' := by
  unfold page; apply List.map_congr_left; intro i hi; rw [h i (by simpa using hi)]
theorem page_inj {w w' : Nat → Nat} (h : page w = page w') : ∀ i, i < 32 → w i = w' i := by
  intro i hi
  have h1 := page_get w hi
  rw [h, page_get w' hi] at h1
  simp at h1; omega
theorem head_len (f : Fr) : f.head.length = 4 := rfl
theorem cells_len (f : Fr) : f.cells.length = 36 := by simp [Fr.cells, head_len, page_len]
theorem cells_one (f : Fr) : ∀ u ∈ f.cells, u.oneCell' = true := by
  intro u hu
  rcases List.mem_append.1 hu with h | h
  · simp [Fr.head] at h; rcases h with rfl | rfl | rfl | rfl <;> rfl
  · exact page_one _ u h
theorem cells_word (f : Fr) {i : Nat} (h : i < 32) : f.cells[4 + i]? = some (.int .u32 (f.w i : Nat)) := by
  unfold Fr.cells
  rw [List.getElem?_append_right (by simp [head_len]), head_len, Nat.add_sub_cancel_left, page_get _ h]
/-- the memory at block B: n frames m at block G -/
structure MemAt (w : World) (B G n : Nat) (m : Nat → Fr) : Prop where
  top : w.heap[B]? = some (.cells #[.slice (some ⟨G, 0, none⟩) n n] 37 (0, 0))
  row : ∃ cs, w.heap[G]? = some (.cells cs 60 (0, 0)) ∧ cs.size = n * 36 ∧ ∀ f, f < n → ∀ (j : Nat) (v : Value), (m f).cells[j]? = some v → cs[f * 36 + j]? = some v
  ne : B ≠ G
def upd (m : Nat → Fr) (k : Nat) (f : Fr) : Nat → Fr := fun j => if j = k then f else m j
theorem upd_same (m : Nat → Fr) (k : Nat) (f : Fr) : upd m k f k = f := by simp [upd]
theorem upd_other (m : Nat → Fr) {k j : Nat} (f : Fr) (h : j ≠ k) : upd m k f j = m j := by simp [upd, h]

section
variable {w w' : World} {B G n : Nat} {m : Nat → Fr}
theorem MemAt.fr (h : MemAt w B G n m) {k : Nat} (hk : k < n) : w.rangeAt G (k * 36) (m k).cells := by
  obtain ⟨cs, h1, h2, h3⟩ := h.row
  intro j v hv
  rw [cell_of_row _ _ _ _ _ _ h1]; exact h3 k hk j v hv
theorem MemAt.lt (h : MemAt w B G n m) : B < w.heap.size := (Array.getElem?_eq_some_iff.1 h.top).1
theorem MemAt.glt (h : MemAt w B G n m) : G < w.heap.size := by obtain ⟨cs, h1, _⟩ := h.row; exact (Array.getElem?_eq_some_iff.1 h1).1
theorem MemAt.hd (h : MemAt w B G n m) : w.cell? ⟨B, 0, none⟩ = some (.slice (some ⟨G, 0, none⟩) n n) := by
  rw [cell_of_row _ _ _ _ _ _ h.top]; rfl
theorem MemAt.frz (h : MemAt w B G n m) (o : Nat) : w.frozen? ⟨G, o, none⟩ = false := by obtain ⟨cs, h1, _⟩ := h.row; exact frozen_of_row w G o _ _ h1
theorem MemAt.c (h : MemAt w B G n m) {k : Nat} (hk : k < n) : w.cell? ⟨G, k * 36, none⟩ = some (.int .i64 (m k).s) ∧ w.cell? ⟨G, k * 36 + 1, none⟩ = some (.int .i64 ((m k).h : Nat)) ∧
    w.cell? ⟨G, k * 36 + 2, none⟩ = some (.bool (m k).d) ∧ w.cell? ⟨G, k * 36 + 3, none⟩ = some (.int .i64 (m k).k) :=
  ⟨h.fr hk 0 _ rfl, h.fr hk 1 _ rfl, h.fr hk 2 _ rfl, h.fr hk 3 _ rfl⟩
theorem MemAt.word (h : MemAt w B G n m) {k i : Nat} (hk : k < n) (hi : i < 32) : w.cell? ⟨G, k * 36 + 4 + i, none⟩ = some (.int .u32 ((m k).w i : Nat)) := by
  rw [Nat.add_assoc]; exact h.fr hk (4 + i) _ (cells_word _ hi)
theorem MemAt.page (h : MemAt w B G n m) {k : Nat} (hk : k < n) : w.rangeAt G (k * 36 + 4) (page (m k).w) := by
  intro i v hv
  have hi : i < 32 := by have := (List.getElem?_eq_some_iff.1 hv).1; rwa [page_len] at this
  rw [page_get _ hi] at hv
  rw [h.word hk hi, hv]
theorem MemAt.there (h : MemAt w B G n m) {k o l : Nat} (hk : k < n) (ho : o + l ≤ 36) : w.there G (k * 36 + o) l := by
  intro j hj
  refine ⟨?_, h.frz _⟩
  have := (h.fr hk).isSome (o + j) (by rw [cells_len]; omega)
  rwa [← Nat.add_assoc] at this
/-- vs laid into frame k from place o on -/
theorem MemAt.put (h : MemAt w B G n m) {k o : Nat} (hk : k < n) {vs : List Value} (ho : o + vs.length ≤ 36) {f : Fr}
    (hf : ∀ (j : Nat) (v : Value), f.cells[j]? = some v → (if o ≤ j ∧ j < o + vs.length then vs[j - o]? else (m k).cells[j]?) = some v) : MemAt (w.setCells G (k * 36 + o) vs) B G n (upd m k f) := by
  obtain ⟨cs, h1, h2, h3⟩ := h.row
  obtain ⟨cs', g1, g2, g3⟩ := heap_setCells G 60 vs (k * 36 + o) w cs h1
  refine ⟨by rw [heap_setCells_other G B h.ne]; exact h.top, ⟨cs', g1, by omega, fun p hp j v hv => ?_⟩, h.ne⟩
  have hj : j < 36 := by have := (List.getElem?_eq_some_iff.1 hv).1; rwa [cells_len] at this
  rw [g3 _ (by omega)]
  by_cases e : p = k
  · subst e
    rw [upd_same] at hv
    have := hf j v hv
    by_cases hr : o ≤ j ∧ j < o + vs.length
    · rw [if_pos hr] at this
      rw [if_pos (by omega), ← this]; congr 1; omega
    · rw [if_neg hr] at this
      rw [if_neg (by omega)]; exact h3 p hp j v this
  · rw [upd_other _ _ e] at hv
    rw [if_neg (by omega)]
    exact h3 p hp j v hv
theorem MemAt.put1 (h : MemAt w B G n m) {k o : Nat} (hk : k < n) {v : Value} (ho : o < 36) {f : Fr} (hf : f.cells = (m k).cells.set o v) : MemAt (w.setCell ⟨G, k * 36 + o, none⟩ v) B G n (upd m k f) := by
  refine h.put (vs := [v]) hk (by simp; omega) (fun j u hu => ?_)
  rw [hf] at hu
  by_cases e : o = j
  · subst e
    rw [List.getElem?_set_self (by rw [cells_len]; omega)] at hu
    rw [if_pos (by simp)]; simpa using hu
  · rw [List.getElem?_set_ne e] at hu
    rw [if_neg (by simp; omega)]; exact hu
/-- a whole frame -/
theorem MemAt.putAll (h : MemAt w B G n m) {k : Nat} (hk : k < n) (f : Fr) : MemAt (w.setCells G (k * 36) f.cells) B G n (upd m k f) := by
  have := h.put (o := 0) (vs := f.cells) hk (by rw [cells_len]; omega) (f := f) (fun j v hv => by
    have hj : j < 36 := by have := (List.getElem?_eq_some_iff.1 hv).1; rwa [cells_len] at this
    rw [if_pos (by rw [cells_len]; omega)]; exact hv)
  exact this
theorem MemAt.putPage (h : MemAt w B G n m) {k : Nat} (hk : k < n) (p : Nat → Nat) : MemAt (w.setCells G (k * 36 + 4) (_root_.Go.Proofs.Ytmdcmpkjhflgpaa.page p)) B G n (upd m k { m k with w := p }) := by
  refine h.put hk (by rw [page_len]; omega) (fun j v hv => ?_)
  have hj : j < 36 := by have := (List.getElem?_eq_some_iff.1 hv).1; rwa [cells_len] at this
  rw [page_len]
  by_cases e : 4 ≤ j ∧ j < 4 + 32
  · rw [if_pos e]
    unfold Fr.cells at hv
    rw [List.getElem?_append_right (by simp [head_len]; omega), head_len] at hv; exact hv
  · rw [if_neg e]
    unfold Fr.cells at hv ⊢
    rw [List.getElem?_append_left (by simp [head_len]; omega)] at hv ⊢
    exact hv
theorem MemAt.keep (h : MemAt w B G n m) (hB : w'.heap[B]? = w.heap[B]?) (hG : w'.heap[G]? = w.heap[G]?) : MemAt w' B G n m := by
  obtain ⟨cs, h1, h2⟩ := h.row
  exact ⟨by rw [hB]; exact h.top, ⟨cs, by rw [hG]; exact h1, h2⟩, h.ne⟩
theorem MemAt.drew (h : MemAt w B G n m) : MemAt w.drew B G n m := h.keep rfl rfl
theorem MemAt.below (h : MemAt w B G n m) (hb : Below w.heap.size w w') : MemAt w' B G n m := h.keep (hb.block B h.lt) (hb.block G h.glt)
theorem MemAt.mod (h : MemAt w B G n m) {F : Nat → Prop} (hb : Mod F w w') (hB : ¬ F B) (hG : ¬ F G) : MemAt w' B G n m := h.keep (hb.block B h.lt hB) (hb.block G h.glt hG)
theorem MemAt.alloc (h : MemAt w B G n m) (o : Obj) : MemAt (w.alloc o) B G n m := h.below ((Below.refl _ _).alloc (Nat.le_refl _) o)
theorem MemAt.congr (h : MemAt w B G n m) {m' : Nat → Fr} (e : ∀ f, f < n → m f = m' f) : MemAt w B G n m' := by
  obtain ⟨cs, h1, h2, h3⟩ := h.row
  exact ⟨h.top, ⟨cs, h1, h2, fun f hf j v hv => h3 f hf j v (by rw [e f hf]; exact hv)⟩, h.ne⟩
end
end Go.Proofs.Ytmdcmpkjhflgpaa
