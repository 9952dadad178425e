import Derived.Test.YtnpklhjndominaaD0
namespace Go.Proofs.Ytnpklhjndominaa
open Go.RowKit

/-- a byte -/
def By (n : Nat) : Value := .int .u8 (n : Int)
theorem By_one (zs : List Nat) : ∀ u ∈ zs.map By, u.oneCell' = true := by
  intro u hu; simp at hu; obtain ⟨n, _, rfl⟩ := hu; rfl
/-- a sector's bytes -/
def Sec (b : List Nat) : Prop := b.length = 128 ∧ ∀ x ∈ b, x < 256
/-- a disk: the medium, the cache, the acts, whether it is armed, with how many, whether it is down -/
structure Dsk where
  M : Nat → List Nat
  c : List (Nat × List Nat)
  acts : Nat
  armed : Bool
  left : Nat
  down : Bool
def enc1 (x : Nat × List Nat) : List Value := .int .i64 (x.1 : Int) :: x.2.map By
def encs (c : List (Nat × List Nat)) : List Value := c.flatMap enc1
structure Dsk.Ok (D : Dsk) : Prop where
  m : ∀ s, s < 1024 → Sec (D.M s)
  c : ∀ x ∈ D.c, x.1 < 1024 ∧ Sec x.2
  l : D.left < 9223372036854775808
structure Cs (cs : Array Value) (cv : Value) (D : Dsk) : Prop where
  size : cs.size = 131077
  med : ∀ s, s < 1024 → ∀ (j : Nat) (v : Value), ((D.M s).map By)[j]? = some v → cs[s * 128 + j]? = some v
  cch : cs[131072]? = some cv
  act : cs[131073]? = some (.int .i64 (D.acts : Int))
  arm : cs[131074]? = some (.bool D.armed)
  lft : cs[131075]? = some (.int .i64 (D.left : Int))
  dwn : cs[131076]? = some (.bool D.down)
structure DkAt (w : World) (B : Nat) (cs : Array Value) (cv : Value) (D : Dsk) : Prop where
  top : w.heap[B]? = some (.cells cs 45 (0, 0))
  inn : Cs cs cv D
  row : w.ownsRow 0 62 129 cv D.c.length (encs D.c)
  ne : cv.ownBlock ≠ some B
  ok : D.Ok
/-- a disk at block B -/
def DkA (B : Nat) (D : Dsk) : Asn := fun w F => ∃ cs cv, DkAt w B cs cv D ∧ ∀ b, F b ↔ b = B ∨ cv.ownBlock = some b

theorem ownsRow_lt {w : World} {base e size n : Nat} {v : Value} {xs : List Value} (h : w.ownsRow base e size v n xs) {b : Nat} (hb : v.ownBlock = some b) : b < w.heap.size := (World.ownsRow.lt h b hb).2
theorem ownsRow_keep {w w' : World} {base e size n : Nat} {v : Value} {xs : List Value} (h : w.ownsRow base e size v n xs) (hk : ∀ b, v.ownBlock = some b → w'.heap[b]? = w.heap[b]?) : w'.ownsRow base e size v n xs := by
  obtain ⟨hl, ⟨rfl, h0⟩ | ⟨g, cap, cur, rfl, hb, hg, r⟩⟩ := h
  · exact ⟨hl, .inl ⟨rfl, h0⟩⟩
  · exact ⟨hl, .inr ⟨g, cap, cur, rfl, hb, by rw [hk g rfl]; exact hg, r⟩⟩
theorem good_dk (B : Nat) (D : Dsk) : Good (DkA B D) := by
  refine ⟨?_, ?_⟩
  · rintro W H ⟨cs, cv, h, he⟩ b hb
    rcases (he b).1 hb with rfl | e
    · exact (Array.getElem?_eq_some_iff.1 h.top).1
    · exact ownsRow_lt h.row e
  · rintro W W' H ⟨cs, cv, h, he⟩ _ hk
    exact ⟨cs, cv, ⟨by rw [hk B ((he B).2 (.inl rfl))]; exact h.top, h.inn, ownsRow_keep h.row (fun b e => hk b ((he b).2 (.inr e))), h.ne, h.ok⟩, he⟩

theorem heap_setCells_other (b k : Nat) (hk : k ≠ b) : ∀ (vs : List Value) (o : Nat) (w : World), (w.setCells b o vs).heap[k]? = w.heap[k]?
  | [], _, _ => rfl
  | v :: r, o, w => by
    rw [World.setCells, heap_setCells_other b k hk r (o + 1) _, heap_setCell_other _ _ _ _ hk]
theorem setCells_rest (b : Nat) : ∀ (vs : List Value) (o : Nat) (w : World), (w.setCells b o vs).os = w.os ∧ (w.setCells b o vs).tape = w.tape ∧ (w.setCells b o vs).output = w.output ∧ (w.setCells b o vs).heap.size = w.heap.size
  | [], _, _ => ⟨rfl, rfl, rfl, rfl⟩
  | v :: r, o, w => by
    obtain ⟨h1, h2, h3, h4⟩ := setCells_rest b r (o + 1) (w.setCell ⟨b, o, none⟩ v)
    rw [World.setCells]
    exact ⟨h1, h2, h3, by rw [h4]; simp [World.setCell]⟩
theorem heap_setCells (b t : Nat) : ∀ (vs : List Value) (o : Nat) (w : World) (cs : Array Value), w.heap[b]? = some (.cells cs t (0, 0)) →
    ∃ cs', (w.setCells b o vs).heap[b]? = some (.cells cs' t (0, 0)) ∧ cs'.size = cs.size ∧ ∀ j, j < cs.size → cs'[j]? = if o ≤ j ∧ j < o + vs.length then vs[j - o]? else cs[j]?
  | [], o, w, cs, h => ⟨cs, h, rfl, fun j _ => by rw [if_neg (by simp)]⟩
  | v :: r, o, w, cs, h => by
    obtain ⟨cs', h1, h2, h3⟩ := heap_setCells b t r (o + 1) (w.setCell ⟨b, o, none⟩ v) (cs.setIfInBounds o v) (heap_setCell_same w b o cs t v h)
    refine ⟨cs', by rw [World.setCells]; exact h1, by simpa using h2, fun j hj => ?_⟩
    rw [h3 j (by simpa using hj)]
    by_cases e : j = o
    · subst e
      rw [if_neg (by omega), if_pos (by simp)]
      simp [hj]
    · by_cases e2 : o + 1 ≤ j ∧ j < o + 1 + r.length
      · rw [if_pos e2, if_pos (by simp; omega)]
        rw [show j - o = (j - (o + 1)) + 1 by omega, List.getElem?_cons_succ]
      · rw [if_neg e2, if_neg (by simp; omega)]
        rw [Array.getElem?_setIfInBounds_ne (by omega)]
theorem Mod.setCells {F : Nat → Prop} {a w : World} (h : Mod F a w) {b : Nat} (hp : F b ∨ a.heap.size ≤ b) (o : Nat) (vs : List Value) : Mod F a (w.setCells b o vs) := by
  obtain ⟨h1, h2, h3, h4⟩ := setCells_rest b vs o w
  refine ⟨h1.trans h.os, h2.trans h.tape, h3.trans h.output, by rw [h4]; exact h.size, fun k hk hf => ?_⟩
  rw [heap_setCells_other b k (fun e => by subst e; rcases hp with hp | hp; exact hf hp; omega)]; exact h.block k hk hf

section
variable {cs : Array Value} {cv : Value} {D : Dsk}
theorem med_lt (h : D.Ok) {s j : Nat} {v : Value} (hs : s < 1024) (hv : ((D.M s).map By)[j]? = some v) : s * 128 + j < 131072 := by
  have := (List.getElem?_eq_some_iff.1 hv).1
  simp [(h.m s hs).1] at this; omega
theorem Cs.setCch (h : Cs cs cv D) (hD : D.Ok) (cv' : Value) (c' : List (Nat × List Nat)) : Cs (cs.setIfInBounds 131072 cv') cv' { D with c := c' } :=
  ⟨by simpa using h.size, fun s hs j v hv => by rw [Array.getElem?_setIfInBounds_ne (by have := med_lt hD hs hv; omega)]; exact h.med s hs j v hv,
   by rw [Array.getElem?_setIfInBounds_self_of_lt (by rw [h.size]; omega)], by rw [Array.getElem?_setIfInBounds_ne (by omega)]; exact h.act, by rw [Array.getElem?_setIfInBounds_ne (by omega)]; exact h.arm, by rw [Array.getElem?_setIfInBounds_ne (by omega)]; exact h.lft, by rw [Array.getElem?_setIfInBounds_ne (by omega)]; exact h.dwn⟩
theorem Cs.setAct (h : Cs cs cv D) (hD : D.Ok) (n : Nat) : Cs (cs.setIfInBounds 131073 (.int .i64 (n : Int))) cv { D with acts := n } :=
  ⟨by simpa using h.size, fun s hs j v hv => by rw [Array.getElem?_setIfInBounds_ne (by have := med_lt hD hs hv; omega)]; exact h.med s hs j v hv,
   by rw [Array.getElem?_setIfInBounds_ne (by omega)]; exact h.cch, by rw [Array.getElem?_setIfInBounds_self_of_lt (by rw [h.size]; omega)], by rw [Array.getElem?_setIfInBounds_ne (by omega)]; exact h.arm, by rw [Array.getElem?_setIfInBounds_ne (by omega)]; exact h.lft, by rw [Array.getElem?_setIfInBounds_ne (by omega)]; exact h.dwn⟩
theorem Cs.setArm (h : Cs cs cv D) (hD : D.Ok) (n : Bool) : Cs (cs.setIfInBounds 131074 (.bool n)) cv { D with armed := n } :=
  ⟨by simpa using h.size, fun s hs j v hv => by rw [Array.getElem?_setIfInBounds_ne (by have := med_lt hD hs hv; omega)]; exact h.med s hs j v hv,
   by rw [Array.getElem?_setIfInBounds_ne (by omega)]; exact h.cch, by rw [Array.getElem?_setIfInBounds_ne (by omega)]; exact h.act, by rw [Array.getElem?_setIfInBounds_self_of_lt (by rw [h.size]; omega)], by rw [Array.getElem?_setIfInBounds_ne (by omega)]; exact h.lft, by rw [Array.getElem?_setIfInBounds_ne (by omega)]; exact h.dwn⟩
theorem Cs.setLft (h : Cs cs cv D) (hD : D.Ok) (n : Nat) : Cs (cs.setIfInBounds 131075 (.int .i64 (n : Int))) cv { D with left := n } :=
  ⟨by simpa using h.size, fun s hs j v hv => by rw [Array.getElem?_setIfInBounds_ne (by have := med_lt hD hs hv; omega)]; exact h.med s hs j v hv,
   by rw [Array.getElem?_setIfInBounds_ne (by omega)]; exact h.cch, by rw [Array.getElem?_setIfInBounds_ne (by omega)]; exact h.act, by rw [Array.getElem?_setIfInBounds_ne (by omega)]; exact h.arm, by rw [Array.getElem?_setIfInBounds_self_of_lt (by rw [h.size]; omega)], by rw [Array.getElem?_setIfInBounds_ne (by omega)]; exact h.dwn⟩
theorem Cs.setDwn (h : Cs cs cv D) (hD : D.Ok) (n : Bool) : Cs (cs.setIfInBounds 131076 (.bool n)) cv { D with down := n } :=
  ⟨by simpa using h.size, fun s hs j v hv => by rw [Array.getElem?_setIfInBounds_ne (by have := med_lt hD hs hv; omega)]; exact h.med s hs j v hv,
   by rw [Array.getElem?_setIfInBounds_ne (by omega)]; exact h.cch, by rw [Array.getElem?_setIfInBounds_ne (by omega)]; exact h.act, by rw [Array.getElem?_setIfInBounds_ne (by omega)]; exact h.arm, by rw [Array.getElem?_setIfInBounds_ne (by omega)]; exact h.lft, by rw [Array.getElem?_setIfInBounds_self_of_lt (by rw [h.size]; omega)]⟩
def upd (M : Nat → List Nat) (s : Nat) (b : List Nat) : Nat → List Nat := fun k => if k = s then b else M k
/-- bytes zs laid on the medium from place 'at' of sector s on -/
theorem Cs.setMed (h : Cs cs cv D) (hD : D.Ok) {cs' : Array Value} {s a : Nat} {zs b : List Nat} (hs : s < 1024) (ha : a + zs.length ≤ 128) (hb : b = splice (D.M s) a zs) (hsz : cs'.size = cs.size)
    (hg : ∀ j, j < cs.size → cs'[j]? = if s * 128 + a ≤ j ∧ j < s * 128 + a + zs.length then (zs.map By)[j - (s * 128 + a)]? else cs[j]?) : Cs cs' cv { D with M := upd D.M s b } := by
  have hl := (hD.m s hs).1
  refine ⟨by rw [hsz]; exact h.size, fun k hk j v hv => ?_, ?_, ?_, ?_, ?_, ?_⟩
  · have hkl : (upd D.M s b k).length = 128 := by
      unfold upd; split
      · rw [hb, length_splice _ _ _ (by omega)]; exact hl
      · exact (hD.m k hk).1
    have hjl : j < 128 := by have := (List.getElem?_eq_some_iff.1 hv).1; simpa [hkl] using this
    rw [hg _ (by rw [h.size]; omega)]
    by_cases e : k = s
    · subst e
      have hv' : ((splice (D.M k) a zs).map By)[j]? = some v := by simpa [upd, hb] using hv
      rw [List.getElem?_map] at hv'
      unfold splice at hv'
      split
      · rename_i hr
        rw [List.getElem?_append_right (by simp; omega), List.getElem?_append_left (by simp; omega)] at hv'
        rw [List.getElem?_map, ← hv', List.length_take, Nat.min_eq_left (by omega)]
        congr 2; omega
      · rename_i hr
        refine h.med k hk j v ?_
        rw [List.getElem?_map, ← hv']
        congr 1
        by_cases h1 : j < a
        · rw [List.getElem?_append_left (by simp; omega), List.getElem?_take_of_lt h1]
        · rw [List.getElem?_append_right (by simp; omega), List.getElem?_append_right (by simp; omega), List.getElem?_drop]
          congr 1; simp; omega
    · rw [if_neg (by omega)]
      exact h.med k hk j v (by simpa [upd, e] using hv)
  all_goals rw [hg _ (by rw [h.size]; omega), if_neg (by omega)]
  · exact h.cch
  · exact h.act
  · exact h.arm
  · exact h.lft
  · exact h.dwn
end
end Go.Proofs.Ytnpklhjndominaa
