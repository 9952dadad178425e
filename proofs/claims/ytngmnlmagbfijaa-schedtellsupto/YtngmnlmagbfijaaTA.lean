import Derived.Test.YtngmnlmagbfijaaMB
import Derived.Test.YtngmnlmagbfijaaPZ
namespace Go.Proofs.Ytngmnlmagbfijaa
open Go.RowKit
/-- what is known, and its weights -/
structure KW (K W : List Int) (f : Int → Option Int) : Prop where
  len : W.length = K.length
  nd : K.Nodup
  val : ∀ i, i < K.length → f (K.getD i 0) = some (W.getD i 0)
  all : ∀ c, (f c).isSome = true → c ∈ K
theorem getD_lt {l : List Int} {i : Nat} (h : i < l.length) : l.getD i 0 = l[i] := by rw [List.getD_eq_getElem?_getD, List.getElem?_eq_getElem h, Option.getD_some]
theorem getD_app1 {l r : List Int} {i : Nat} (h : i < l.length) : (l ++ r).getD i 0 = l.getD i 0 := by rw [List.getD_eq_getElem?_getD, List.getElem?_append_left h, ← List.getD_eq_getElem?_getD]
theorem getD_app2 (l : List Int) (c : Int) {i : Nat} (h : i = l.length) : (l ++ [c]).getD i 0 = c := by subst h; simp
theorem KW.nil : KW [] [] (fun _ => none) := ⟨rfl, List.nodup_nil, fun i h => by simp at h, fun c h => by simp at h⟩
theorem KW.mem {K W : List Int} {f : Int → Option Int} (h : KW K W f) {c : Int} : c ∈ K ↔ (f c).isSome = true := by
  refine ⟨fun hc => ?_, h.all c⟩
  obtain ⟨i, hi, rfl⟩ := List.getElem_of_mem hc
  have := h.val i hi
  rw [getD_lt hi] at this
  rw [this]; rfl
/-- one more is known -/
def oneK (f : Int → Option Int) (c : Int) : Int → Option Int := fun x => if x = c then some ((f x).getD 1) else f x
theorem KW.old {K W : List Int} {f : Int → Option Int} (h : KW K W f) {c : Int} (hc : c ∈ K) : KW K W (oneK f c) := by
  have : oneK f c = f := by
    funext x
    unfold oneK
    by_cases hx : x = c
    · subst hx
      rw [if_pos rfl]
      obtain ⟨v, hv⟩ := Option.isSome_iff_exists.1 (h.mem.1 hc)
      rw [hv]; rfl
    · rw [if_neg hx]
  rw [this]; exact h
theorem KW.new {K W : List Int} {f : Int → Option Int} (h : KW K W f) {c : Int} (hc : c ∉ K) : KW (K ++ [c]) (W ++ [1]) (oneK f c) := by
  have hn : f c = none := by
    cases hf : f c with
    | none => rfl
    | some v => exact absurd (h.all c (by rw [hf]; rfl)) hc
  refine ⟨by simp [h.len], ?_, fun i hi => ?_, fun x hx => ?_⟩
  · rw [List.nodup_append]
    exact ⟨h.nd, by simp, fun a ha b hb e => by simp at hb; subst hb; subst e; exact hc ha⟩
  · simp at hi
    by_cases hk : i < K.length
    · rw [getD_app1 hk, getD_app1 (by rw [h.len]; exact hk)]
      unfold oneK
      rw [if_neg (fun e => hc (by rw [← e, getD_lt hk]; exact List.getElem_mem _))]
      exact h.val i hk
    · obtain rfl : i = K.length := by omega
      rw [getD_app2 K c rfl, getD_app2 W 1 h.len.symm]
      unfold oneK
      rw [if_pos rfl, hn]; rfl
  · unfold oneK at hx
    rw [List.mem_append]
    by_cases hxc : x = c
    · subst hxc; exact .inr (List.mem_singleton.2 rfl)
    · rw [if_neg hxc] at hx; exact .inl (h.all x hx)
theorem KW.set {K W W' : List Int} {f : Int → Option Int} (h : KW K W f) {c m : Int} (hc : c ∈ K) (hl : W'.length = K.length) (hv : ∀ i, i < K.length → W'.getD i 0 = if K.getD i 0 = c then m else W.getD i 0) : KW K W' (upd f c m) := by
  refine ⟨hl, h.nd, fun i hi => ?_, fun x hx => ?_⟩
  · rw [hv i hi]
    unfold upd
    by_cases hk : K.getD i 0 = c
    · rw [if_pos hk, if_pos hk]
    · rw [if_neg hk, if_neg hk]; exact h.val i hi
  · unfold upd at hx
    by_cases hxc : x = c
    · subst hxc; exact hc
    · rw [if_neg hxc] at hx; exact h.all x hx
theorem upd_oneK (f : Int → Option Int) (c m : Int) : upd (oneK f c) c m = upd f c m := by
  funext x
  unfold upd oneK
  by_cases h : x = c
  · rw [if_pos h, if_pos h]
  · rw [if_neg h, if_neg h, if_neg h]
theorem admW_take {s : Pl} {R : List Int} {k : Nat} (h : k < R.length) : admW s (R.take (k + 1)) = oneK (admW s (R.take k)) (R.getD k 0) := by
  funext x
  unfold oneK admW
  have hm : x ∈ R.take (k + 1) ↔ x ∈ R.take k ∨ x = R.getD k 0 := by
    rw [List.take_succ_eq_append_getElem h, getD_lt h, List.mem_append, List.mem_singleton]
  by_cases h1 : x = R.getD k 0
  · rw [if_pos (hm.2 (.inr h1)), if_pos h1]
    by_cases h2 : x ∈ R.take k
    · rw [if_pos h2]; rfl
    · rw [if_neg h2]
  · rw [if_neg h1]
    by_cases h2 : x ∈ R.take k
    · rw [if_pos (hm.2 (.inl h2)), if_pos h2]
    · rw [if_neg (fun h3 => (hm.1 h3).elim h2 h1), if_neg h2]
theorem admW_nil (s : Pl) : admW s [] = s.wt := by funext x; unfold admW; rw [if_neg (by simp)]
theorem admW_srt (s : Pl) (R : List Int) : admW s (srt R) = admW s R := by
  funext x; unfold admW
  by_cases h : x ∈ R
  · rw [if_pos h, if_pos (srt_mem.2 h)]
  · rw [if_neg h, if_neg (fun h2 => h (srt_mem.1 h2))]
/-- two rows of one's own beside each other and beside the blocks Z -/
structure Two (base : Nat) (Z : Nat → Prop) (w : World) (e1 : TypeId) (s1 : Nat) (v1 : Value) (n1 : Nat) (x1 : List Value) (e2 : TypeId) (s2 : Nat) (v2 : Value) (n2 : Nat) (x2 : List Value) : Prop where
  zl : ∀ b, Z b → b < w.heap.size
  r1 : w.ownsRow base e1 s1 v1 n1 x1
  z1 : ∀ b, v1.ownBlock = some b → ¬ Z b
  r2 : w.ownsRow base e2 s2 v2 n2 x2
  z2 : ∀ b, v2.ownBlock = some b → ¬ Z b
  ne : ∀ b, v1.ownBlock = some b → v2.ownBlock = some b → False
section
variable {base : Nat} {Z Z' : Nat → Prop} {w w' : World} {e1 e2 : TypeId} {s1 s2 n1 n2 : Nat} {v1 v2 : Value} {x1 x2 : List Value}
theorem Two.swap (h : Two base Z w e1 s1 v1 n1 x1 e2 s2 v2 n2 x2) : Two base Z w e2 s2 v2 n2 x2 e1 s1 v1 n1 x1 :=
  ⟨h.zl, h.r2, h.z2, h.r1, h.z1, fun b h1 h2 => h.ne b h2 h1⟩
theorem Two.ext {X X' : Nat → Prop} (h : Two base Z w e1 s1 v1 n1 x1 e2 s2 v2 n2 x2) (hE : Ext X w X' w') (hX : ∀ b, X b → Z b) (hZ : ∀ b, Z' b → b < w'.heap.size ∧ (Z b ∨ w.heap.size ≤ b)) : Two base Z' w' e1 s1 v1 n1 x1 e2 s2 v2 n2 x2 := by
  have l1 := World.ownsRow.lt h.r1
  have l2 := World.ownsRow.lt h.r2
  refine ⟨fun b hb => (hZ b hb).1, ownsRow_keepB h.r1 (fun b hb => hE.mod.block b (l1 b hb).2 (fun hx => h.z1 b hb (hX b hx))), fun b hb hz => ?_, ownsRow_keepB h.r2 (fun b hb => hE.mod.block b (l2 b hb).2 (fun hx => h.z2 b hb (hX b hx))), fun b hb hz => ?_, h.ne⟩
  · rcases (hZ b hz).2 with h9 | h9
    · exact h.z1 b hb h9
    · have := (l1 b hb).2; omega
  · rcases (hZ b hz).2 with h9 | h9
    · exact h.z2 b hb h9
    · have := (l2 b hb).2; omega
/-- behind a change of the first row alone -/
theorem Two.chg {v1' : Value} {n1' : Nat} {x1' : List Value} (h : Two base Z w e1 s1 v1 n1 x1 e2 s2 v2 n2 x2) (hO : w'.ownsRow base e1 s1 v1' n1' x1') (hs : w.heap.size ≤ w'.heap.size) (hk : ∀ b, b < w.heap.size → v1.ownBlock ≠ some b → w'.heap[b]? = w.heap[b]?) (hown : v1'.ownBlock = v1.ownBlock ∨ v1'.ownBlock = some w.heap.size) : Two base Z w' e1 s1 v1' n1' x1' e2 s2 v2 n2 x2 := by
  have l2 := World.ownsRow.lt h.r2
  refine ⟨fun b hb => Nat.lt_of_lt_of_le (h.zl b hb) hs, hO, fun b hb hz => ?_, ownsRow_keepB h.r2 (fun b hb => hk b (l2 b hb).2 (fun e => h.ne b e hb)), h.z2, fun b hb hb2 => ?_⟩
  · rcases hown with e | e
    · exact h.z1 b (by rw [← e]; exact hb) hz
    · rw [e] at hb; cases hb; have := h.zl _ hz; omega
  · rcases hown with e | e
    · exact h.ne b (by rw [← e]; exact hb) hb2
    · rw [e] at hb; cases hb; have := (l2 _ hb2).2; omega
theorem Two.grow {v1' : Value} {n1' : Nat} {x1' : List Value} (h : Two base Z w e1 s1 v1 n1 x1 e2 s2 v2 n2 x2) (hO : w'.ownsRow base e1 s1 v1' n1' x1') (hg : w.grownBy w' v1.ownBlock) (hown : v1'.ownBlock = v1.ownBlock ∨ v1'.ownBlock = some w.heap.size) : Two base Z w' e1 s1 v1' n1' x1' e2 s2 v2 n2 x2 :=
  h.chg hO hg.size (fun b hb hn => hg.block b hb (fun e => hn e.symm)) hown
theorem Two.stay (h : Two base Z w e1 s1 v1 n1 x1 e2 s2 v2 n2 x2) (hk : ∀ b, b < w.heap.size → v1.ownBlock ≠ some b → w'.heap[b]? = w.heap[b]?) : ∀ b, Z b → w'.heap[b]? = w.heap[b]? :=
  fun b hb => hk b (h.zl b hb) (fun e => h.z1 b e hb)
end
/-- a plan, what is known with its weights, and the blocks Z that stay -/
structure TlS (w0 w : World) (Z X : Nat → Prop) (g n : Nat) (s : Pl) (vK vW : Value) (K W : List Int) : Prop where
  pl : PlAt w X g n s
  low : ∀ b, X b → w0.heap.size ≤ b ∧ ¬ Z b
  bel : Below w0.heap.size w0 w
  two : Two w0.heap.size (fun b => Z b ∨ X b) w 3 1 vK K.length (K.map Zi) 3 1 vW W.length (W.map Zi)
section
variable {w0 w w' : World} {Z X : Nat → Prop} {g n : Nat} {s : Pl} {vK vW : Value} {K W : List Int}
theorem TlS.lt (h : TlS w0 w Z X g n s vK vW K W) : ∀ b, Z b → b < w.heap.size := fun b hb => h.two.zl b (.inl hb)
theorem TlS.ext {X' : Nat → Prop} {n' : Nat} {s' : Pl} (h : TlS w0 w Z X g n s vK vW K W) (hp : PlAt w' X' g n' s') (hE : Ext X w X' w') : TlS w0 w' (fun b => Z b ∨ (w.heap.size ≤ b ∧ ¬ X' b ∧ b < w'.heap.size)) X' g n' s' vK vW K W ∧ ∀ b, Z b → w'.heap[b]? = w.heap[b]? := by
  have hz := hE.mod.size
  refine ⟨⟨hp, fun b hb => ⟨hE.low (fun b hb => (h.low b hb).1) h.bel.size b hb, fun h9 => ?_⟩, h.bel.trans (hE.mod.below (fun b hb => (h.low b hb).1) h.bel.size), h.two.ext hE (fun b hb => .inr hb) (fun b hb => ?_)⟩, fun b hb => hE.mod.block b (h.lt b hb) (fun hx => (h.low b hx).2 hb)⟩
  · rcases h9 with h9 | h9
    · rcases hE.new b hb with h8 | h8
      · exact (h.low b h8).2 h9
      · have := h.lt b h9; omega
    · exact h9.2.1 hb
  · rcases hb with (hb | hb) | hb
    · exact ⟨by have := h.lt b hb; omega, .inl (.inl hb)⟩
    · exact ⟨hb.2.2, .inr hb.1⟩
    · refine ⟨hp.lt b hb, ?_⟩
      rcases hE.new b hb with h8 | h8
      · exact .inl (.inr h8)
      · exact .inr h8
theorem TlS.below (h : TlS w0 w Z X g n s vK vW K W) (hb : Below w.heap.size w w') : TlS w0 w' (fun b => Z b ∨ (w.heap.size ≤ b ∧ b < w'.heap.size)) X g n s vK vW K W ∧ ∀ b, Z b → w'.heap[b]? = w.heap[b]? := by
  have h1 := h.ext (h.pl.below hb) ⟨Mod.of_below hb, fun _ h => .inl h⟩
  refine ⟨⟨h1.1.pl, fun b hx => ⟨(h1.1.low b hx).1, fun h9 => ?_⟩, h1.1.bel, h1.1.two.ext (X := fun _ => False) (X' := fun _ => False) ⟨Mod.refl _ _, fun _ h => h.elim⟩ (fun _ h => h.elim) (fun b hb2 => ?_)⟩, h1.2⟩
  · rcases h9 with h9 | h9
    · exact (h.low b hx).2 h9
    · have := h.pl.lt b hx; omega
  · have hz := hb.size
    rcases hb2 with (h9 | h9) | h9
    · exact ⟨by have := h.lt b h9; omega, .inl (.inl (.inl h9))⟩
    · refine ⟨h9.2, ?_⟩
      by_cases hx : X b
      · exact .inl (.inr hx)
      · exact .inl (.inl (.inr ⟨h9.1, hx, h9.2⟩))
    · exact ⟨h1.1.pl.lt b h9, .inl (.inr h9)⟩
theorem TlS.drew (h : TlS w0 w Z X g n s vK vW K W) (hd : Drews w w') : TlS w0 w' Z X g n s vK vW K W := by
  have hb : Below w.heap.size w w' := hd.below _
  refine ⟨h.pl.below hb, h.low, h.bel.trans (hb.mono h.bel.size), h.two.ext (X := fun _ => False) (X' := fun _ => False) ⟨hd.mod _, fun _ h => h.elim⟩ (fun _ h => h.elim) (fun b hb2 => ⟨?_, .inl hb2⟩)⟩
  have := h.two.zl b hb2
  have := hb.size
  omega
theorem TlS.sub {Z' : Nat → Prop} (h : TlS w0 w Z X g n s vK vW K W) (hz : ∀ b, Z' b → Z b) : TlS w0 w Z' X g n s vK vW K W :=
  ⟨h.pl, fun b hb => ⟨(h.low b hb).1, fun h9 => (h.low b hb).2 (hz b h9)⟩, h.bel, ⟨fun b hb => h.two.zl b (hb.imp (hz b) id), h.two.r1, fun b hb h9 => h.two.z1 b hb (h9.imp (hz b) id), h.two.r2, fun b hb h9 => h.two.z2 b hb (h9.imp (hz b) id), h.two.ne⟩⟩
theorem TlS.chgK {vK' : Value} {K' : List Int} (h : TlS w0 w Z X g n s vK vW K W) (hO : w'.ownsRow w0.heap.size 3 1 vK' K'.length (K'.map Zi)) (hb : Below w0.heap.size w w') (hk : ∀ b, b < w.heap.size → vK.ownBlock ≠ some b → w'.heap[b]? = w.heap[b]?) (hown : vK'.ownBlock = vK.ownBlock ∨ vK'.ownBlock = some w.heap.size) : TlS w0 w' Z X g n s vK' vW K' W ∧ ∀ b, Z b → w'.heap[b]? = w.heap[b]? := by
  have hst := h.two.stay hk
  exact ⟨⟨h.pl.keep hb.size (fun b hx => hst b (.inr hx)), h.low, h.bel.trans hb, h.two.chg hO hb.size hk hown⟩, fun b hb => hst b (.inl hb)⟩
theorem TlS.chgW {vW' : Value} {W' : List Int} (h : TlS w0 w Z X g n s vK vW K W) (hO : w'.ownsRow w0.heap.size 3 1 vW' W'.length (W'.map Zi)) (hb : Below w0.heap.size w w') (hk : ∀ b, b < w.heap.size → vW.ownBlock ≠ some b → w'.heap[b]? = w.heap[b]?) (hown : vW'.ownBlock = vW.ownBlock ∨ vW'.ownBlock = some w.heap.size) : TlS w0 w' Z X g n s vK vW' K W' ∧ ∀ b, Z b → w'.heap[b]? = w.heap[b]? := by
  have hst := h.two.swap.stay hk
  exact ⟨⟨h.pl.keep hb.size (fun b hx => hst b (.inr hx)), h.low, h.bel.trans hb, (h.two.swap.chg hO hb.size hk hown).swap⟩, fun b hb => hst b (.inl hb)⟩
/-- an append to the first row, its literal laid ahead -/
theorem TlS.addK (h : TlS w0 w Z X g n s vK vW K W) {ob : Obj} {v' : Value} {z : Int} (hO : w'.ownsRow w0.heap.size 3 1 v' (K.length + 1) (K.map Zi ++ [.int .i64 z])) (hg : (w.alloc ob).grownBy w' vK.ownBlock) (hown : v'.ownBlock = vK.ownBlock ∨ v'.ownBlock = some (w.alloc ob).heap.size) : TlS w0 w' Z X g n s v' vW (K ++ [z]) W ∧ ∀ b, Z b → w'.heap[b]? = w.heap[b]? := by
  obtain ⟨h1, h2⟩ := h.below (w' := w.alloc ob) ((Below.refl _ _).alloc (Nat.le_refl _) _)
  obtain ⟨h3, h4⟩ := h1.chgK (K' := K ++ [z]) (by simpa [Zi] using hO) ((Below.refl _ _).grown hg h1.bel.size (fun j hj => (World.ownsRow.lt h1.two.r1 j hj).1)) (fun b hb hn => hg.block b hb (fun e => hn e.symm)) hown
  exact ⟨h3.sub (fun b hb => .inl hb), fun b hb => (h4 b (.inl hb)).trans (h2 b hb)⟩
theorem TlS.addW (h : TlS w0 w Z X g n s vK vW K W) {ob : Obj} {v' : Value} {z : Int} (hO : w'.ownsRow w0.heap.size 3 1 v' (W.length + 1) (W.map Zi ++ [.int .i64 z])) (hg : (w.alloc ob).grownBy w' vW.ownBlock) (hown : v'.ownBlock = vW.ownBlock ∨ v'.ownBlock = some (w.alloc ob).heap.size) : TlS w0 w' Z X g n s vK v' K (W ++ [z]) ∧ ∀ b, Z b → w'.heap[b]? = w.heap[b]? := by
  obtain ⟨h1, h2⟩ := h.below (w' := w.alloc ob) ((Below.refl _ _).alloc (Nat.le_refl _) _)
  obtain ⟨h3, h4⟩ := h1.chgW (W' := W ++ [z]) (by simpa [Zi] using hO) ((Below.refl _ _).grown hg h1.bel.size (fun j hj => (World.ownsRow.lt h1.two.r2 j hj).1)) (fun b hb hn => hg.block b hb (fun e => hn e.symm)) hown
  exact ⟨h3.sub (fun b hb => .inl hb), fun b hb => (h4 b (.inl hb)).trans (h2 b hb)⟩
/-- a weight is set -/
theorem TlS.setW {r cap j : Nat} {nn : Nat} {z : Int} (h : TlS w0 w Z X g n s vK (.slice (some ⟨r, 0, none⟩) nn cap) K W) : TlS w0 (w.setCell ⟨r, j, none⟩ (.int .i64 z)) Z X g n s vK (.slice (some ⟨r, 0, none⟩) nn cap) K (W.set j z) ∧ ∀ b, Z b → (w.setCell ⟨r, j, none⟩ (.int .i64 z)).heap[b]? = w.heap[b]? := by
  have hr := (World.ownsRow.lt h.two.r2 r rfl).1
  have hm : Mod (fun b => b = r) w (w.setCell ⟨r, j, none⟩ (.int .i64 z)) := (Mod.refl (fun b => b = r) w).setCell (p := ⟨r, j, none⟩) (.inl rfl) _
  refine h.chgW (by have := Oi.set (j := j) (z := z) (zs := W) (base := w0.heap.size) h.two.r2; exact this) (hm.below (fun b e => by subst e; exact hr) h.bel.size) (fun b hb hn => hm.block b hb (fun e => hn (by subst e; rfl))) (.inl rfl)
/-- a cell of a block that stays is changed -/
theorem TlS.setZ {L j : Nat} {v : Value} (h : TlS w0 w Z X g n s vK vW K W) (hL : w0.heap.size ≤ L) (hZ : Z L) : TlS w0 (w.setCell ⟨L, j, none⟩ v) Z X g n s vK vW K W ∧ ∀ b, b ≠ L → b < w.heap.size → (w.setCell ⟨L, j, none⟩ v).heap[b]? = w.heap[b]? := by
  have hm : Mod (fun b => b = L) w (w.setCell ⟨L, j, none⟩ v) := (Mod.refl (fun b => b = L) w).setCell (p := ⟨L, j, none⟩) (.inl rfl) _
  refine ⟨⟨h.pl.keep hm.size (fun b hb => hm.block b (h.pl.lt b hb) (fun e => (h.low b hb).2 (e ▸ hZ))), h.low, h.bel.trans (hm.below (fun b e => by subst e; exact hL) h.bel.size), ?_⟩, fun b hb hlt => hm.block b hlt hb⟩
  have l1 := World.ownsRow.lt h.two.r1
  have l2 := World.ownsRow.lt h.two.r2
  exact ⟨fun b hb => Nat.lt_of_lt_of_le (h.two.zl b hb) hm.size, ownsRow_keepB h.two.r1 (fun b hb => hm.block b (l1 b hb).2 (fun e => h.two.z1 b hb (.inl (e ▸ hZ)))), h.two.z1, ownsRow_keepB h.two.r2 (fun b hb => hm.block b (l2 b hb).2 (fun e => h.two.z2 b hb (.inl (e ▸ hZ)))), h.two.z2, h.two.ne⟩
end
end Go.Proofs.Ytngmnlmagbfijaa
