import Derived.Test.YtnpklhjndominaaD1
namespace Go.Proofs.Ytnpklhjndominaa
open Go.RowKit

/-- the cache laid over the medium, the oldest write first -/
def play (M : Nat → List Nat) (c : List (Nat × List Nat)) : Nat → List Nat := c.foldl (fun M x => upd M x.1 x.2) M
theorem play_nil (M : Nat → List Nat) : play M [] = M := rfl
theorem play_snoc (M : Nat → List Nat) (c : List (Nat × List Nat)) (x : Nat × List Nat) : play M (c ++ [x]) = upd (play M c) x.1 x.2 := by simp [play]
theorem play_append (M : Nat → List Nat) (c d : List (Nat × List Nat)) : play M (c ++ d) = play (play M c) d := by simp [play]
theorem play_none (M : Nat → List Nat) (c : List (Nat × List Nat)) (s : Nat) (h : ∀ x ∈ c, x.1 ≠ s) : play M c s = M s := by
  induction c generalizing M with
  | nil => rfl
  | cons x r ih =>
    show play (upd M x.1 x.2) r s = M s
    rw [ih _ (fun y hy => h y (List.mem_cons_of_mem _ hy))]
    unfold upd; rw [if_neg (fun e => h x (List.mem_cons_self ..) e.symm)]
theorem play_found (M : Nat → List Nat) (c : List (Nat × List Nat)) (i s : Nat) (x : Nat × List Nat) (hx : c[i]? = some x) (hs : x.1 = s) (h : ∀ k y, i < k → c[k]? = some y → y.1 ≠ s) : play M c s = x.2 := by
  obtain ⟨hl, e⟩ := List.getElem?_eq_some_iff.1 hx
  have hc : c = c.take i ++ ([x] ++ c.drop (i + 1)) := by
    rw [← e]; simp
  rw [hc, play_append, play_append, play_none]
  · show upd _ x.1 x.2 s = x.2
    unfold upd; rw [if_pos hs.symm]
  · intro y hy
    obtain ⟨k, hk⟩ := List.getElem?_of_mem hy
    rw [List.getElem?_drop] at hk
    exact h _ y (by omega) hk
/-- the writes with a number below i that p keeps -/
def keptTo (p : Nat → Bool) (c : List (Nat × List Nat)) : Nat → List (Nat × List Nat)
  | 0 => []
  | i + 1 => if p i then keptTo p c i ++ (c[i]?).toList else keptTo p c i
theorem keptTo_yes {p : Nat → Bool} {c : List (Nat × List Nat)} {i : Nat} {x : Nat × List Nat} (hp : p i = true) (hx : c[i]? = some x) : keptTo p c (i + 1) = keptTo p c i ++ [x] := by
  simp [keptTo, hp, hx]
theorem keptTo_no {p : Nat → Bool} {c : List (Nat × List Nat)} {i : Nat} (hp : p i = false) : keptTo p c (i + 1) = keptTo p c i := by
  simp [keptTo, hp]
theorem keptTo_all {p : Nat → Bool} (c : List (Nat × List Nat)) (hp : ∀ i, p i = true) (i : Nat) (hi : i ≤ c.length) : keptTo p c i = c.take i := by
  induction i with
  | zero => simp [keptTo]
  | succ i ih =>
    have hl : i < c.length := by omega
    rw [keptTo_yes (hp i) (List.getElem?_eq_getElem hl), ih (by omega)]
    simp
theorem keptTo_len (p : Nat → Bool) (c : List (Nat × List Nat)) (i : Nat) : (keptTo p c i).length ≤ i := by
  induction i with
  | zero => simp [keptTo]
  | succ i ih =>
    unfold keptTo
    split
    · have : (c[i]?).toList.length ≤ 1 := by cases c[i]? <;> simp
      simp only [List.length_append]; omega
    · omega
theorem keptTo_mem {p : Nat → Bool} {c : List (Nat × List Nat)} {i : Nat} {x : Nat × List Nat} (h : x ∈ keptTo p c i) : x ∈ c := by
  induction i with
  | zero => simp [keptTo] at h
  | succ i ih =>
    unfold keptTo at h
    split at h
    · rcases List.mem_append.1 h with h | h
      · exact ih h
      · cases e : c[i]? with
        | none => simp [e] at h
        | some y => simp [e] at h; subst h; exact List.mem_of_getElem? e
    · exact ih h
theorem play_sec {M : Nat → List Nat} {c : List (Nat × List Nat)} (hM : ∀ s, s < 1024 → Sec (M s)) (hc : ∀ x ∈ c, x.1 < 1024 ∧ Sec x.2) : ∀ s, s < 1024 → Sec (play M c s) := by
  induction c generalizing M with
  | nil => exact hM
  | cons x r ih =>
    refine ih (fun s hs => ?_) (fun y hy => hc y (List.mem_cons_of_mem _ hy))
    show Sec (upd M x.1 x.2 s)
    unfold upd; split
    · exact (hc x (List.mem_cons_self ..)).2
    · exact hM s hs
/-- behind a crash or a flush that keeps p -/
def Dsk.settled (D : Dsk) (p : Nat → Bool) : Dsk := { D with M := play D.M (keptTo p D.c D.c.length), c := [] }
/-- behind an act -/
def Dsk.acted (D : Dsk) : Dsk := { D with acts := D.acts + 1, left := cond D.armed (D.left - 1) D.left }
def Dsk.off (D : Dsk) : Dsk := { D with down := true }
def Dsk.up (D : Dsk) : Dsk := { D with armed := false, left := 0, down := false }
def Dsk.put (D : Dsk) (s : Nat) (b : List Nat) : Dsk := { D with c := D.c ++ [(s, b)] }
def Dsk.arm (D : Dsk) (n : Nat) : Dsk := { D with armed := true, left := n }
def Dsk.edit (D : Dsk) (s : Nat) (b : List Nat) : Dsk := { D with M := upd D.M s b }
def Dsk.seen (D : Dsk) (s : Nat) : List Nat := play D.M D.c s
theorem Dsk.Ok.settled {D : Dsk} (h : D.Ok) (p : Nat → Bool) : (D.settled p).Ok :=
  ⟨play_sec h.m (fun x hx => h.c x (keptTo_mem hx)), by simp [Dsk.settled], h.l⟩
theorem Dsk.Ok.acted {D : Dsk} (h : D.Ok) : D.acted.Ok := ⟨h.m, h.c, by have := h.l; unfold Dsk.acted; cases D.armed <;> simp <;> omega⟩
theorem Dsk.Ok.off {D : Dsk} (h : D.Ok) : D.off.Ok := ⟨h.m, h.c, h.l⟩
theorem Dsk.Ok.up {D : Dsk} (h : D.Ok) : D.up.Ok := ⟨h.m, h.c, by simp [Dsk.up]⟩
theorem Dsk.Ok.put {D : Dsk} (h : D.Ok) {s : Nat} {b : List Nat} (hs : s < 1024) (hb : Sec b) : (D.put s b).Ok :=
  ⟨h.m, fun x hx => by rcases List.mem_append.1 hx with hx | hx; exact h.c x hx; simp at hx; subst hx; exact ⟨hs, hb⟩, h.l⟩
theorem Dsk.Ok.arm {D : Dsk} (h : D.Ok) {n : Nat} (hn : n < 9223372036854775808) : (D.arm n).Ok := ⟨h.m, h.c, hn⟩
theorem Dsk.Ok.edit {D : Dsk} (h : D.Ok) {s : Nat} {b : List Nat} (hb : Sec b) : (D.edit s b).Ok :=
  ⟨fun k hk => by show Sec (upd D.M s b k); unfold upd; split; exact hb; exact h.m k hk, h.c, h.l⟩
theorem Dsk.Ok.seen {D : Dsk} (h : D.Ok) {s : Nat} (hs : s < 1024) : Sec (D.seen s) := play_sec h.m h.c s hs

theorem encs_get {c : List (Nat × List Nat)} (hc : ∀ x ∈ c, x.1 < 1024 ∧ Sec x.2) {k j : Nat} {x : Nat × List Nat} (hx : c[k]? = some x) (hj : j < 129) : (encs c)[k * 129 + j]? = (enc1 x)[j]? := by
  induction c generalizing k with
  | nil => simp at hx
  | cons y r ih =>
    have hy : (enc1 y).length = 129 := by simp [enc1, (hc y (List.mem_cons_self ..)).2.1]
    show (enc1 y ++ encs r)[k * 129 + j]? = _
    cases k with
    | zero =>
      simp at hx; subst hx
      rw [List.getElem?_append_left (by omega)]
      congr 1; omega
    | succ k =>
      rw [List.getElem?_append_right (by omega), ← ih (fun z hz => hc z (List.mem_cons_of_mem _ hz)) (by simpa using hx)]
      congr 1; omega
theorem encs_len {c : List (Nat × List Nat)} (hc : ∀ x ∈ c, x.1 < 1024 ∧ Sec x.2) : (encs c).length = c.length * 129 := by
  induction c with
  | nil => rfl
  | cons y r ih =>
    have hy : (enc1 y).length = 129 := by simp [enc1, (hc y (List.mem_cons_self ..)).2.1]
    show (enc1 y ++ encs r).length = _
    rw [List.length_append, hy, ih (fun z hz => hc z (List.mem_cons_of_mem _ hz))]
    simp only [List.length_cons]; omega
theorem encs_snoc (c : List (Nat × List Nat)) (x : Nat × List Nat) : encs (c ++ [x]) = encs c ++ enc1 x := by simp [encs]
theorem enc1_one (x : Nat × List Nat) : ∀ u ∈ enc1 x, u.oneCell' = true := by
  intro u hu
  rcases List.mem_cons.1 hu with rfl | hu
  · rfl
  · exact By_one x.2 u hu

section
variable {w w' : World} {B : Nat} {cs cs' : Array Value} {cv : Value} {D D' : Dsk}
theorem DkAt.med (h : DkAt w B cs cv D) {s : Nat} (hs : s < 1024) : w.rangeAt B (s * 128) ((D.M s).map By) := by
  intro j v hv
  rw [cell_of_row _ _ _ _ _ _ h.top]; exact h.inn.med s hs j v hv
theorem DkAt.cch (h : DkAt w B cs cv D) : w.cell? ⟨B, 131072, none⟩ = some cv := by rw [cell_of_row _ _ _ _ _ _ h.top]; exact h.inn.cch
theorem DkAt.act (h : DkAt w B cs cv D) : w.cell? ⟨B, 131073, none⟩ = some (.int .i64 (D.acts : Int)) := by rw [cell_of_row _ _ _ _ _ _ h.top]; exact h.inn.act
theorem DkAt.arm (h : DkAt w B cs cv D) : w.cell? ⟨B, 131074, none⟩ = some (.bool D.armed) := by rw [cell_of_row _ _ _ _ _ _ h.top]; exact h.inn.arm
theorem DkAt.lft (h : DkAt w B cs cv D) : w.cell? ⟨B, 131075, none⟩ = some (.int .i64 (D.left : Int)) := by rw [cell_of_row _ _ _ _ _ _ h.top]; exact h.inn.lft
theorem DkAt.dwn (h : DkAt w B cs cv D) : w.cell? ⟨B, 131076, none⟩ = some (.bool D.down) := by rw [cell_of_row _ _ _ _ _ _ h.top]; exact h.inn.dwn
theorem DkAt.frz (h : DkAt w B cs cv D) (o : Nat) : w.frozen? ⟨B, o, none⟩ = false := frozen_of_row w B o _ _ h.top
theorem DkAt.lt (h : DkAt w B cs cv D) : B < w.heap.size := (Array.getElem?_eq_some_iff.1 h.top).1
/-- a store into the disk's own block -/
theorem DkAt.turn (h : DkAt w B cs cv D) (ht : w'.heap[B]? = some (.cells cs' 45 (0, 0))) (hc : Cs cs' cv D') (hcc : D'.c = D.c) (hok : D'.Ok) (hk : ∀ b, b ≠ B → w'.heap[b]? = w.heap[b]?) : DkAt w' B cs' cv D' :=
  ⟨ht, hc, by rw [hcc]; exact ownsRow_keep h.row (fun b e => hk b (fun e' => h.ne (by rw [e, e']))), h.ne, hok⟩
theorem DkAt.cell1 (h : DkAt w B cs cv D) (o : Nat) (v : Value) (hc : Cs (cs.setIfInBounds o v) cv D') (hcc : D'.c = D.c) (hok : D'.Ok) : DkAt (w.setCell ⟨B, o, none⟩ v) B (cs.setIfInBounds o v) cv D' :=
  h.turn (heap_setCell_same _ _ _ _ _ _ h.top) hc hcc hok (fun _ e => heap_setCell_other _ _ _ _ e)
theorem DkAt.drew (h : DkAt w B cs cv D) : DkAt w.drew B cs cv D := ⟨h.top, h.inn, h.row, h.ne, h.ok⟩
theorem DkAt.keep (h : DkAt w B cs cv D) (ht : w'.heap[B]? = w.heap[B]?) (hk : ∀ b, cv.ownBlock = some b → w'.heap[b]? = w.heap[b]?) : DkAt w' B cs cv D :=
  ⟨by rw [ht]; exact h.top, h.inn, ownsRow_keep h.row hk, h.ne, h.ok⟩
theorem DkAt.below (h : DkAt w B cs cv D) (hb : Below w.heap.size w w') : DkAt w' B cs cv D :=
  h.keep (hb.block _ h.lt) (fun _ e => hb.block _ (ownsRow_lt h.row e))
/-- an entry of the cache -/
theorem DkAt.entry (h : DkAt w B cs cv D) {k : Nat} {x : Nat × List Nat} (hx : D.c[k]? = some x) : ∃ g cap, cv = .slice (some ⟨g, 0, none⟩) D.c.length cap ∧ g ≠ B ∧
    w.cell? ⟨g, k * 129, none⟩ = some (.int .i64 (x.1 : Int)) ∧ w.rangeAt g (k * 129 + 1) (x.2.map By) := by
  have hk := (List.getElem?_eq_some_iff.1 hx).1
  have hr := h.row
  obtain ⟨hl, ⟨_, h0⟩ | ⟨g, cap, cur, hv, hb, hg, r⟩⟩ := hr
  · omega
  · refine ⟨g, cap, hv, fun e => h.ne (by rw [hv, e]; rfl), ?_, ?_⟩
    · have := World.ownsRow.cells h.row (g := g) (by rw [hv]; rfl) (k * 129) (.int .i64 (x.1 : Int)) (by have := encs_get h.ok.c hx (j := 0) (by omega); simpa [enc1] using this)
      rw [add0] at this; exact this
    · intro j v hv'
      have hj : j < 128 := by have := (List.getElem?_eq_some_iff.1 hv').1; simpa [(h.ok.c x (List.mem_of_getElem? hx)).2.1] using this
      have := World.ownsRow.cells h.row (g := g) (by rw [hv]; rfl) (k * 129 + (1 + j)) v (by rw [encs_get h.ok.c hx (j := 1 + j) (by omega), Nat.add_comm 1 j]; simpa [enc1] using hv')
      rw [add0, ← Nat.add_assoc] at this; exact this
theorem DkAt.len (h : DkAt w B cs cv D) : ∃ ao cap, cv = .slice ao D.c.length cap := by
  obtain ⟨hl, ⟨hv, h0⟩ | ⟨g, cap, cur, hv, hb, hg, r⟩⟩ := h.row
  · exact ⟨none, 0, by rw [hv, h0]⟩
  · exact ⟨_, _, hv⟩
end
end Go.Proofs.Ytnpklhjndominaa
