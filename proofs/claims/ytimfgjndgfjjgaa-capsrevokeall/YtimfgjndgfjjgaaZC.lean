import Derived.Test.YtimfgjndgfjjgaaZB
namespace Go.Proofs.Ytimfgjndgfjjgaa
open Go.RowKit Go.Shelf

def cc (a b d : Nat) (y : Nat) : Nat := if y = 1 then a else if y = 2 then b else if y = 3 then d else 0
def oo (p q : Bool) (x : Nat) : Bool := decide (x < 4) && (decide (x ≠ 1) || p) && (decide (x ≠ 2) || q)
theorem cc_zero : (fun _ : Nat => 0) = cc 0 0 0 := by funext y; unfold cc; split <;> (try split) <;> (try split) <;> rfl
theorem cc_1 (a b d n : Nat) : (fun y => if y = 1 then cc a b d 1 + n else cc a b d y) = cc (a + n) b d := by funext y; unfold cc; by_cases e : y = 1 <;> simp [e]
theorem cc_2 (a b d n : Nat) : (fun y => if y = 2 then cc a b d 2 + n else cc a b d y) = cc a (b + n) d := by
  funext y; unfold cc; by_cases e : y = 2
  · subst e; simp
  · simp [e]
theorem cc_3 (a b d n : Nat) : (fun y => if y = 3 then cc a b d 3 + n else cc a b d y) = cc a b (d + n) := by
  funext y; unfold cc; by_cases e : y = 3
  · subst e; simp
  · simp [e]
theorem cc_01 (a b d : Nat) : (fun y => if y = 1 then 0 else cc a b d y) = cc 0 b d := by funext y; unfold cc; by_cases e : y = 1 <;> simp [e]
theorem cc_02 (a b d : Nat) : (fun y => if y = 2 then 0 else cc a b d y) = cc a 0 d := by
  funext y; unfold cc; by_cases e : y = 2
  · subst e; simp
  · simp [e]
theorem oo_1 (p q : Bool) : (fun y => if y = 1 then false else oo p q y) = oo false q := by funext y; unfold oo; by_cases e : y = 1 <;> simp [e]
theorem oo_2 (p q : Bool) : (fun y => if y = 2 then false else oo p q y) = oo p false := by funext y; unfold oo; by_cases e : y = 2 <;> simp [e]
theorem oo_four : (fun x : Nat => decide (x < 4)) = oo true true := by funext y; unfold oo; simp
/-- the book of a law, whose world began at W -/
structure Gs (W wr : World) (B : Nat) (F : Nat → Prop) (bk : List (Option Lst)) (s : Option Int) (c : Nat → Nat) (o : Nat → Bool) : Prop where
  book : Book wr F B bk
  kp : Kp bk s c o
  lo : ∀ b, F b → W.heap.size ≤ b
  bel : Below W.heap.size W wr
section
variable {W wr w' : World} {B : Nat} {F F' : Nat → Prop} {bk bk' : List (Option Lst)} {s s' : Option Int} {c c' : Nat → Nat} {o o' : Nat → Bool}
theorem Gs.ext (h : Gs W wr B F bk s c o) (hB : Book w' F' B bk') (hE : Ext F wr F' w') (hk : Kp bk' s' c' o') : Gs W w' B F' bk' s' c' o' := by
  refine ⟨hB, hk, fun b hb => ?_, h.bel.trans (hE.mod.below h.lo h.bel.size)⟩
  rcases hE.new b hb with h1 | h1
  · exact h.lo b h1
  · exact Nat.le_trans h.bel.size h1
theorem Gs.below (h : Gs W wr B F bk s c o) (hb : Below wr.heap.size wr w') : Gs W w' B F bk s c o := h.ext (h.book.below hb) (Ext.of_below hb) h.kp
/-- a row that a call made -/
theorem Gs.row (h : Gs W wr B F bk s c o) {v : Value} {l : List Hd} (hr : w'.ownsRow wr.heap.size 54 6 v l.length (encA l)) : Rw W.heap.size w' F v l :=
  ⟨⟨hr.1, hr.2.imp id (fun ⟨g, cap, cur, q1, q2, q3⟩ => ⟨g, cap, cur, q1, Nat.le_trans h.bel.size q2, q3⟩)⟩, fun g hg hf => by have := (hr.lt g hg).1; have := h.book.lt g hf; omega⟩
theorem Gs.mark (h : Gs W wr B F bk s c o) {v : Value} {l : List Hd} (hr : Rw W.heap.size wr F v l) (hn : l.length ≤ 768) (f : Nat) (hf : f ≤ 1000) (fi : Int) (hfi : fi = (f : Int)) :
    Calls Try.prog 56 #[v, .int .i64 fi] wr fun x w' => x = .returned (.tuple #[]) ∧ ∃ l' : List Hd, l'.length = l.length ∧ Bears f l' ∧ Gs W w' B F bk s c o ∧ Rw W.heap.size w' F v l' ∧ wr.grownBy w' v.ownBlock := by
  subst hfi
  refine (mark_any wr W.heap.size v l f hr.row hn hf).mono ?_
  rintro x w' ⟨rfl, l', h1, h2, h3, h4⟩
  exact ⟨rfl, l', h1, h2, ⟨book_kept h.book hr h4, h.kp, h.lo, h.bel.grown h4 h.bel.size (fun j hj => (hr.row.lt j hj).1)⟩, ⟨h3, hr.nf⟩, h4⟩
theorem Gs.refilled {s : Int} (h : Gs W wr B F bk (some s) c o) (x n : Nat) (hx : x ≠ 0) (ho : o x = true) (hc : c x + n ≤ 48) (xi : Int) (hxi : xi = (x : Int)) :
    Calls Try.prog 57 #[.pointer (some ⟨B, 0, none⟩), .int .i64 xi, .int .i64 (n : Int)] wr fun e w' => e = .returned (.bool true) ∧ ∃ F' bk', Gs W w' B F' bk' (some s) (fun y => if y = x then c x + n else c y) o ∧ Ext F wr F' w' := by
  subst hxi
  refine (refilled_any wr F B bk h.book s c o h.kp x n hx ho hc).mono ?_
  rintro e w' ⟨rfl, F', bk', h1, h2, h3⟩
  exact ⟨rfl, F', bk', h.ext h1 h2 h3, h2⟩
def kidsA (x : Nat) (s : Int) (n : Nat) : List Hd := (List.range n).map (fun j => ((x : Int), (j, childC s)))
theorem kidsA_len (x : Nat) (s : Int) (n : Nat) : (kidsA x s n).length = n := by simp [kidsA]
theorem kidsA_at (x : Nat) (s : Int) (n i : Nat) (h : i < (kidsA x s n).length) : (kidsA x s n)[i] = ((x : Int), (i, childC s)) := by simp [kidsA]
theorem Gs.revoke {s : Int} (h : Gs W wr B F bk (some s) c o) (x : Nat) (hx : x ≠ 0) (hc : ∀ y, y ≠ x → c y = 0) :
    Calls Try.prog 23 #[.pointer (some ⟨B, 0, none⟩), .int .i64 0, .int .i64 0] wr fun e w' => ∃ v bk', e = .returned (.tuple #[v, .int .i64 0]) ∧ Gs W w' B F bk' (some s) (fun _ => 0) o ∧ Ext F wr F w' ∧ Rw W.heap.size w' F v (kidsA x s (c x)) ∧ ∀ g, v.ownBlock = some g → wr.heap.size ≤ g := by
  have h0 : atB bk ((0 : Nat) : Int) ((0 : Nat) : Int) = some (rootC s) := by have := h.kp.at_ 0 0; simpa using this
  refine (revokeSome_any wr F B bk h.book _ h.kp.rk 0 0 _ h0).mono ?_
  rintro e w' ⟨v, ps, n, rfl, h1, h2, h3, h4, h5, h6⟩
  obtain rfl := h.kp.bel hx hc h1 h2 h3
  have hT : encT bk ((List.range (c x)).map (fun j => (x, j))) = encA (kidsA x s (c x)) := by
    rw [encT_of (R := fun _ => childC s)]
    · simp only [kidsA, List.map_map]; rfl
    · intro p hp
      obtain ⟨j, hj, rfl⟩ := List.mem_map.1 hp
      have h1 := h.kp.at_ x j
      rw [if_neg hx, if_pos (List.mem_range.1 hj)] at h1
      exact h1
  rw [hT] at h4
  have h4' : w'.ownsRow wr.heap.size 54 6 v (kidsA x s (c x)).length (encA (kidsA x s (c x))) := by
    rw [kidsA_len]; simpa using h4
  exact ⟨v, _, rfl, h.ext h5 h6 (h.kp.revoked hx hc), h6, h.row h4', fun g hg => (h4'.lt g hg).1⟩
theorem Gs.shut {s : Int} (h : Gs W wr B F bk (some s) c o) (x : Nat) (hx : x ≠ 0) (ho : o x = true) (xi : Int) (hxi : xi = (x : Int)) :
    Calls Try.prog 47 #[.pointer (some ⟨B, 0, none⟩), .int .i64 xi] wr fun e w' => ∃ v bk', e = .returned (.tuple #[v, .int .i64 0]) ∧ Gs W w' B F bk' (some s) (fun y => if y = x then 0 else c y) (fun y => if y = x then false else o y) ∧ Ext F wr F w' ∧ Rw W.heap.size w' F v (kidsA x s (c x)) ∧ ∀ g, v.ownBlock = some g → wr.heap.size ≤ g := by
  obtain ⟨l, hl, _⟩ := look_len (i := x) (by rw [h.kp.op]; exact ho)
  subst hxi
  refine (shut_some wr F B bk h.book x l hl).mono ?_
  rintro e w' ⟨v, bk', rfl, h1, h2, h3, h4⟩
  have hT : encHs (x : Int) (prs l 0) = encA (kidsA x s (c x)) := by
    rw [h.kp.prs hx hl, encA_hs]; simp only [kidsA, kids, List.map_map]; rfl
  have h1' : w'.ownsRow wr.heap.size 54 6 v (kidsA x s (c x)).length (encA (kidsA x s (c x))) := by
    rw [hT, h.kp.prs hx hl] at h1
    rw [kidsA_len]; simpa [kids] using h1
  exact ⟨v, _, rfl, h.ext h2 h3 (h.kp.shut hx hl h4), h3, h.row h1', fun g hg => (h1'.lt g hg).1⟩
theorem Gs.list {s : Int} (h : Gs W wr B F bk (some s) c o) (x : Nat) (hx : x ≠ 0) (ho : o x = true) (xi : Int) (hxi : xi = (x : Int)) :
    Calls Try.prog 22 #[.pointer (some ⟨B, 0, none⟩), .int .i64 xi] wr fun e w' => ∃ v k, e = .returned (.tuple #[v, .int .i64 k]) ∧ Below wr.heap.size wr w' ∧ Rw W.heap.size w' F v (kidsA x s (c x)) ∧ ∀ g, v.ownBlock = some g → wr.heap.size ≤ g := by
  obtain ⟨l, hl, _⟩ := look_len (i := x) (by rw [h.kp.op]; exact ho)
  have hlf : lf bk x = l := by unfold lf; rw [look_nat, hl]; rfl
  subst hxi
  refine (list_all wr F B bk h.book x).mono ?_
  rintro e w' ⟨v, k, rfl, h1, h2⟩
  rw [hlf] at h1
  have hT : encHs (x : Int) (prs l 0) = encA (kidsA x s (c x)) := by
    rw [h.kp.prs hx hl, encA_hs]; simp only [kidsA, kids, List.map_map]; rfl
  have h1' : w'.ownsRow wr.heap.size 54 6 v (kidsA x s (c x)).length (encA (kidsA x s (c x))) := by
    rw [hT, h.kp.prs hx hl] at h1
    rw [kidsA_len]; simpa [kids] using h1
  exact ⟨v, k, rfl, h2, h.row h1', fun g hg => (h1'.lt g hg).1⟩
theorem Gs.purge {s : Int} (h : Gs W wr B F bk (some s) c o) (x : Nat) (hx : x ≠ 0) (hc : ∀ y, y ≠ x → c y = 0) :
    Calls Try.prog 48 #[.pointer (some ⟨B, 0, none⟩), .int .i64 1, .int .i64 5] wr fun e w' => ∃ v bk', e = .returned v ∧ Gs W w' B F bk' none (fun _ => 0) o ∧ Ext F wr F w' ∧ Rw W.heap.size w' F v (((0 : Int), (0, rootC s)) :: kidsA x s (c x)) ∧ ∀ g, v.ownBlock = some g → wr.heap.size ≤ g := by
  refine (purge_any wr F B bk h.book 1 5).mono ?_
  rintro e w' ⟨v, rfl, h1, h2, h3⟩
  rw [h.kp.pls hx hc] at h1 h2
  have hT : encT bk ((0, 0) :: (List.range (c x)).map (fun j => (x, j))) = encA (((0 : Int), (0, rootC s)) :: kidsA x s (c x)) := by
    rw [encT_of (R := fun p => if p.1 = 0 then rootC s else childC s)]
    · simp only [kidsA, List.map_cons, List.map_map]
      congr 2
      refine List.map_congr_left fun j _ => ?_
      simp [hx]
    · intro p hp
      rcases List.mem_cons.1 hp with rfl | hp
      · have h1 := h.kp.at_ 0 0
        simpa using h1
      · obtain ⟨j, hj, rfl⟩ := List.mem_map.1 hp
        have h1 := h.kp.at_ x j
        rw [if_neg hx, if_pos (List.mem_range.1 hj)] at h1
        simp only [hx, if_false]
        exact h1
  rw [hT] at h1
  have h1' : w'.ownsRow wr.heap.size 54 6 v (((0 : Int), (0, rootC s)) :: kidsA x s (c x)).length (encA (((0 : Int), (0, rootC s)) :: kidsA x s (c x))) := by
    simpa [kidsA_len] using h1
  exact ⟨v, _, rfl, h.ext h2 h3 (h.kp.purged hx hc), h3, h.row h1', fun g hg => (h1'.lt g hg).1⟩
theorem Gs.mint (h : Gs W wr B F bk none (fun _ => 0) o) (ho : o 0 = true) :
    Calls Try.prog 16 #[.pointer (some ⟨B, 0, none⟩), .int .i64 0, .int .i64 0, .agg #[.int .i64 1, .int .i64 5, .int .i64 8, .int .i64 15]] wr fun e w' => e = .returned (.tuple #[.int .i64 0, .int .i64 0]) ∧ ∃ F' bk', Gs W w' B F' bk' (some 8) (fun _ => 0) o ∧ Ext F wr F' w' := by
  refine (mint_any wr F B bk h.book 0 0 1 5 8 15).mono ?_
  rintro e w' ⟨v, c, bk', F', rfl, h1, h2, h3⟩
  obtain ⟨rfl, rfl, hk⟩ := h.kp.mint (fun i l hl => h.book.l48 hl) ho h3
  exact ⟨rfl, F', bk', h.ext h1 h2 hk, h2⟩
end
end Go.Proofs.Ytimfgjndgfjjgaa
