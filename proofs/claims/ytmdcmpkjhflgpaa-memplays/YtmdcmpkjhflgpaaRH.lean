import Derived.Test.YtmdcmpkjhflgpaaRE
import Derived.Test.YtmdcmpkjhflgpaaRG
namespace Go.Proofs.Ytmdcmpkjhflgpaa
open Go.RowKit

/-- where a pair lies: the program's memory and the document's -/
structure Ix where
  B : Nat
  G : Nat
  B' : Nat
  G' : Nat
  n : Nat
  c : Nat
  a : Option Addr
/-- alike -/
def Al (n : Nat) (m r : Nat → Fr) : Prop := ∀ f, f < n → (r f).h = (m f).h ∧ (0 < (m f).h → r f = m f)
structure Pr (w : World) (x : Ix) (m r : Nat → Fr) : Prop where
  mem : MemAt w x.B x.G x.n m
  ref : RfAt w x.B' x.G' x.n x.c x.a r
  al : Al x.n m r
  ap : x.B ≠ x.G' ∧ x.G ≠ x.G' ∧ x.B' ≠ x.G
  n64 : x.n ≤ 64
def Own (x : Ix) : Nat → Prop := fun b => b = x.G ∨ b = x.G'
/-- what a step on both leaves -/
def PPost (w w' : World) (x : Ix) (m : Nat → Fr) : Prop := ∃ m' r', Pr w' x m' r' ∧ Mod (Own x) w w' ∧ ∀ K, 1 ≤ K → (∀ j, (m j).h ≤ K) → ∀ j, (m' j).h ≤ K + 1
/-- both calls answer c -/
def Two (x : Ix) (m : Nat → Fr) (w : World) (f g : FuncId) (xs : Value → Array Value) (c : Value) : Prop :=
  ∃ Q : World → Prop, Calls Try.prog f (xs (.pointer (some ⟨x.B, 0, none⟩))) w (fun e w1 => e = .returned c ∧ Q w1 ∧ Mod (Own x) w w1) ∧ ∀ w1, Q w1 → Calls Try.prog g (xs (.pointer (some ⟨x.B', 0, none⟩))) w1 (fun e w2 => e = .returned c ∧ PPost w w2 x m)
theorem Mod.wide {F F' : Nat → Prop} {w w' : World} (h : Mod F w w') (hf : ∀ b, F b → F' b) : Mod F' w w' := ⟨h.os, h.tape, h.output, h.size, fun b hb hn => h.block b hb (fun e => hn (hf b e))⟩
theorem Al.upd {n : Nat} {m r : Nat → Fr} (h : Al n m r) (k : Nat) {f g : Fr} (h1 : g.h = f.h) (h2 : 0 < f.h → g = f) : Al n (upd m k f) (upd r k g) := by
  intro j hj
  unfold Go.Proofs.Ytmdcmpkjhflgpaa.upd
  by_cases e : j = k
  · rw [if_pos e, if_pos e]; exact ⟨h1, h2⟩
  · rw [if_neg e, if_neg e]; exact h j hj
theorem grow {m : Nat → Fr} {k : Nat} {f : Fr} (h : ∀ K, 1 ≤ K → (∀ j, (m j).h ≤ K) → f.h ≤ K + 1) : ∀ K, 1 ≤ K → (∀ j, (m j).h ≤ K) → ∀ j, (upd m k f j).h ≤ K + 1 := by
  intro K h1 h2 j
  unfold Go.Proofs.Ytmdcmpkjhflgpaa.upd
  by_cases e : j = k
  · rw [if_pos e]; exact h K h1 h2
  · rw [if_neg e]; have := h2 j; omega
section
variable {w w1 w2 : World} {x : Ix} {m r m' r' : Nat → Fr}
theorem Pr.below (h : Pr w x m r) (hb : Below w.heap.size w w1) : Pr w1 x m r := ⟨h.mem.below hb, h.ref.below hb, h.al, h.ap, h.n64⟩
theorem PPost.same (h : Pr w1 x m r) (hb : Mod (Own x) w w1) : PPost w w1 x m := ⟨m, r, h, hb, fun K _ h j => by have := h j; omega⟩
theorem Pr.after (h : Pr w x m r) (g : MGo w w1 x.B x.G x.n m') : RfAt w1 x.B' x.G' x.n x.c x.a r := h.ref.mod g.2 h.ap.2.2 (fun e => h.ap.2.1 e.symm)
theorem PPost.both (h : Pr w x m r) (g1 : MGo w w1 x.B x.G x.n m') (g2 : RGo w1 w2 x.B' x.G' x.n x.c x.a r') (al : Al x.n m' r') (hK : ∀ K, 1 ≤ K → (∀ j, (m j).h ≤ K) → ∀ j, (m' j).h ≤ K + 1) : PPost w w2 x m :=
  ⟨m', r', ⟨g1.1.mod g2.2 h.ap.1 h.ap.2.1, g2.1, al, h.ap, h.n64⟩, (g1.2.wide (fun _ e => .inl e)).trans (g2.2.wide (fun _ e => .inr e)), hK⟩
theorem Pr.on (h : Pr w x m r) {k : Nat} (hu : On m x.n k) : On r x.n k ∧ r k = m k := ⟨⟨hu.1, by rw [(h.al k hu.1).1]; exact hu.2⟩, (h.al k hu.1).2 hu.2⟩
theorem Pr.off (h : Pr w x m r) {f : Int} (hu : Off m x.n f) : Off r x.n f := fun k e hk => by rw [(h.al k hk).1]; exact hu k e hk
/-- two calls that leave all as it is -/
theorem Two.quiet (h : Pr w x m r) {f g : FuncId} {xs : Value → Array Value} {c : Value} (h1 : Calls Try.prog f (xs (.pointer (some ⟨x.B, 0, none⟩))) w (fun e w1 => e = .returned c ∧ w1 = w))
    (h2 : Calls Try.prog g (xs (.pointer (some ⟨x.B', 0, none⟩))) w (fun e w1 => e = .returned c ∧ w1 = w)) : Two x m w f g xs c := by
  refine ⟨fun w1 => w1 = w, h1.mono (fun e w1 ⟨h3, h4⟩ => ⟨h3, h4, by rw [h4]; exact Mod.refl _ _⟩), fun w1 hw => ?_⟩
  subst hw
  exact h2.mono (fun e w2 ⟨h3, h4⟩ => ⟨h3, by subst h4; exact PPost.same h (Mod.refl _ _)⟩)
theorem Two.under (h : Pr w x m r) {f g : FuncId} {xs : Value → Array Value} {c : Value} (h1 : Calls Try.prog f (xs (.pointer (some ⟨x.B, 0, none⟩))) w (fun e w1 => e = .returned c ∧ Below w.heap.size w w1))
    (h2 : ∀ w1, RfAt w1 x.B' x.G' x.n x.c x.a r → Calls Try.prog g (xs (.pointer (some ⟨x.B', 0, none⟩))) w1 (fun e w2 => e = .returned c ∧ Below w1.heap.size w1 w2)) : Two x m w f g xs c := by
  refine ⟨fun w1 => Below w.heap.size w w1, h1.mono (fun e w1 ⟨h3, h4⟩ => ⟨h3, h4, Mod.of_below h4⟩), fun w1 hw => ?_⟩
  exact (h2 w1 (h.ref.below hw)).mono (fun e w2 ⟨h3, h4⟩ => ⟨h3, PPost.same ((h.below hw).below h4) (Mod.of_below (hw.trans (h4.mono hw.size)))⟩)
theorem Two.write (h : Pr w x m r) {f g : FuncId} {xs : Value → Array Value} {c : Value} (h1 : Calls Try.prog f (xs (.pointer (some ⟨x.B, 0, none⟩))) w (fun e w1 => e = .returned c ∧ MGo w w1 x.B x.G x.n m'))
    (h2 : ∀ w1, RfAt w1 x.B' x.G' x.n x.c x.a r → Calls Try.prog g (xs (.pointer (some ⟨x.B', 0, none⟩))) w1 (fun e w2 => e = .returned c ∧ RGo w1 w2 x.B' x.G' x.n x.c x.a r')) (al : Al x.n m' r') (hK : ∀ K, 1 ≤ K → (∀ j, (m j).h ≤ K) → ∀ j, (m' j).h ≤ K + 1) : Two x m w f g xs c := by
  refine ⟨fun w1 => MGo w w1 x.B x.G x.n m', h1.mono (fun e w1 ⟨h3, h4⟩ => ⟨h3, h4, h4.2.wide (fun _ e => .inl e)⟩), fun w1 hw => ?_⟩
  exact (h2 w1 (h.after hw)).mono (fun e w2 ⟨h3, h4⟩ => ⟨h3, PPost.both h hw h4 al hK⟩)
theorem two_hold (h : Pr w x m r) (hb : ∀ j, (m j).h < 4611686018427387904) (f : Int) : ∃ c : Int, Two x m w 27 28 (fun p => #[p, .int .i64 f]) (.int .i64 c) := by
  rcases on_or_off m x.n f with hu | ⟨k, rfl, hu⟩
  · exact ⟨50, Two.quiet h (hold_off w _ _ _ _ f h.mem hu) (rhold_off w _ _ _ _ _ _ f h.ref (h.off hu))⟩
  · obtain ⟨hu', e⟩ := h.on hu
    refine ⟨0, Two.write h (hold_on w _ _ _ _ k h.mem hu (hb k)) (fun w1 h1 => rhold_on w1 _ _ _ _ _ _ k h1 hu' (by rw [e]; exact hb k)) (h.al.upd k (by rw [e]) (fun _ => by rw [e])) (grow (fun K _ h2 => by have := h2 k; simp; omega))⟩
theorem two_drop (h : Pr w x m r) (hb : ∀ j, (m j).h < 4611686018427387904) (f : Int) : ∃ (b : Bool) (c : Int), Two x m w 29 30 (fun p => #[p, .int .i64 f]) (.tuple #[.bool b, .int .i64 c]) := by
  rcases on_or_off m x.n f with hu | ⟨k, rfl, hu⟩
  · exact ⟨false, 50, Two.quiet h (drop_off w _ _ _ _ f h.mem hu) (rdrop_off w _ _ _ _ _ _ f h.ref (h.off hu))⟩
  · obtain ⟨hu', e⟩ := h.on hu
    have h0 := hu.2
    by_cases h1 : (m k).h = 1
    · refine ⟨true, 0, Two.write h (drop_last w _ _ _ _ k h.mem hu h1) (fun w1 h2 => (rdrop_on w1 _ _ _ _ _ _ k h2 hu' (by rw [e]; exact hb k)).mono (fun e1 w2 ⟨h3, h4⟩ => ⟨by rw [h3, e, h1]; rfl, h4⟩)) (h.al.upd k (by rw [e, h1]; rfl) (fun hh => by simp [Fr.nil] at hh)) (grow (fun K _ h2 => by simp [Fr.nil]))⟩
    · refine ⟨false, 0, Two.write h (drop_more w _ _ _ _ k h.mem hu (by omega) (hb k)) (fun w1 h2 => (rdrop_on w1 _ _ _ _ _ _ k h2 hu' (by rw [e]; exact hb k)).mono (fun e1 w2 ⟨h3, h4⟩ => ⟨by rw [h3, e]; simp [h1], h4⟩)) (h.al.upd k (by rw [e]) (fun _ => by rw [e])) (grow (fun K _ h2 => by have := h2 k; simp; omega))⟩
theorem two_store (h : Pr w x m r) (f i : Int) (v : Nat) : ∃ c : Int, Two x m w 31 32 (fun p => #[p, .int .i64 f, .int .i64 i, .int .u32 (v : Int)]) (.int .i64 c) := by
  rcases on_or_off m x.n f with hu | ⟨k, rfl, hu⟩
  · exact ⟨50, Two.quiet h (store_off w _ _ _ _ f i v h.mem hu) (rstore_off w _ _ _ _ _ _ f i v h.ref (h.off hu))⟩
  · obtain ⟨hu', e⟩ := h.on hu
    by_cases hi : i < 0 ∨ 32 ≤ i
    · exact ⟨51, Two.quiet h (store_bad w _ _ _ _ k i v h.mem hu hi) (rstore_bad w _ _ _ _ _ _ k i v h.ref hu' hi)⟩
    · obtain ⟨j, rfl⟩ := Int.eq_ofNat_of_zero_le (show 0 ≤ i by omega)
      exact ⟨0, Two.write h (store_ok w _ _ _ _ k j v h.mem hu (by omega)) (fun w1 h1 => rstore_ok w1 _ _ _ _ _ _ k j v h1 hu' (by omega)) (h.al.upd k (by rw [e]) (fun _ => by rw [e])) (grow (fun K _ h2 => by have := h2 k; simp; omega))⟩
theorem two_load (h : Pr w x m r) (f i : Int) : ∃ (v : Nat) (c : Int), Two x m w 8 9 (fun p => #[p, .int .i64 f, .int .i64 i]) (.tuple #[.int .u32 (v : Nat), .int .i64 c]) := by
  rcases on_or_off m x.n f with hu | ⟨k, rfl, hu⟩
  · exact ⟨0, 50, Two.quiet h (load_off w _ _ _ _ f i h.mem hu) (rload_off w _ _ _ _ _ _ f i h.ref (h.off hu))⟩
  · obtain ⟨hu', e⟩ := h.on hu
    by_cases hi : i < 0 ∨ 32 ≤ i
    · exact ⟨0, 51, Two.quiet h (load_bad w _ _ _ _ k i h.mem hu hi) (rload_bad w _ _ _ _ _ _ k i h.ref hu' hi)⟩
    · obtain ⟨j, rfl⟩ := Int.eq_ofNat_of_zero_le (show 0 ≤ i by omega)
      exact ⟨(m k).w j, 0, Two.quiet h (load_ok w _ _ _ _ k j h.mem hu (by omega)) (by rw [← e]; exact rload_ok w _ _ _ _ _ _ k j h.ref hu' (by omega))⟩
theorem two_setPage (h : Pr w x m r) (f : Int) (p : Nat → Nat) : ∃ c : Int, Two x m w 33 34 (fun q => #[q, .int .i64 f, .agg (page p).toArray]) (.int .i64 c) := by
  rcases on_or_off m x.n f with hu | ⟨k, rfl, hu⟩
  · exact ⟨50, Two.under h (setPage_off w _ _ _ _ f p h.mem hu) (fun w1 h1 => rsetPage_off w1 _ _ _ _ _ _ f p h1 (h.off hu))⟩
  · obtain ⟨hu', e⟩ := h.on hu
    exact ⟨0, Two.write h (setPage_on w _ _ _ _ k p h.mem hu) (fun w1 h1 => rsetPage_on w1 _ _ _ _ _ _ k p h1 hu') (h.al.upd k (by rw [e]) (fun _ => by rw [e])) (grow (fun K _ h2 => by have := h2 k; simp; omega))⟩
theorem two_copy (h : Pr w x m r) (f g : Int) : ∃ c : Int, Two x m w 35 36 (fun q => #[q, .int .i64 f, .int .i64 g]) (.int .i64 c) := by
  rcases on_or_off m x.n f with hu | ⟨k, rfl, hu⟩
  · exact ⟨50, Two.quiet h (copy_off w _ _ _ _ f g h.mem (.inl hu)) (rcopy_off w _ _ _ _ _ _ f g h.ref (.inl (h.off hu)))⟩
  · rcases on_or_off m x.n g with ht | ⟨t, rfl, ht⟩
    · exact ⟨50, Two.quiet h (copy_off w _ _ _ _ k g h.mem (.inr ht)) (rcopy_off w _ _ _ _ _ _ k g h.ref (.inr (h.off ht)))⟩
    · obtain ⟨hu', e⟩ := h.on hu
      obtain ⟨ht', e2⟩ := h.on ht
      exact ⟨0, Two.write h (copy_on w _ _ _ _ k t h.mem hu ht) (fun w1 h1 => rcopy_on w1 _ _ _ _ _ _ k t h1 hu' ht') (h.al.upd t (by rw [e2]) (fun _ => by rw [e2, e])) (grow (fun K _ h2 => by have := h2 t; simp; omega))⟩
theorem two_same (h : Pr w x m r) (f g : Int) : ∃ (b : Bool) (c : Int), Two x m w 12 13 (fun q => #[q, .int .i64 f, .int .i64 g]) (.tuple #[.bool b, .int .i64 c]) := by
  rcases on_or_off m x.n f with hu | ⟨k, rfl, hu⟩
  · exact ⟨false, 50, Two.quiet h (same_off w _ _ _ _ f g h.mem (.inl hu)) (rsame_off w _ _ _ _ _ _ f g h.ref (.inl (h.off hu)))⟩
  · rcases on_or_off m x.n g with ht | ⟨t, rfl, ht⟩
    · exact ⟨false, 50, Two.quiet h (same_off w _ _ _ _ k g h.mem (.inr ht)) (rsame_off w _ _ _ _ _ _ k g h.ref (.inr (h.off ht)))⟩
    · obtain ⟨hu', e⟩ := h.on hu
      obtain ⟨ht', e2⟩ := h.on ht
      exact ⟨eqP (m k).w (m t).w, 0, Two.under h (same_on w _ _ _ _ k t h.mem hu ht) (fun w1 h1 => by rw [← e, ← e2]; exact rsame_on w1 _ _ _ _ _ _ k t h1 hu' ht')⟩
theorem two_clean (h : Pr w x m r) (f mk : Int) : ∃ (b : Bool) (c : Int), Two x m w 37 38 (fun q => #[q, .int .i64 f, .int .i64 mk]) (.tuple #[.bool b, .int .i64 c]) := by
  rcases on_or_off m x.n f with hu | ⟨k, rfl, hu⟩
  · exact ⟨false, 50, Two.quiet h (clean_off w _ _ _ _ f mk h.mem hu) (rclean_off w _ _ _ _ _ _ f mk h.ref (h.off hu))⟩
  · obtain ⟨hu', e⟩ := h.on hu
    by_cases hi : mk < 1 ∨ 4611686018427387903 < mk
    · exact ⟨false, 1, Two.quiet h (clean_arg w _ _ _ _ k mk h.mem hu hi) (rclean_arg w _ _ _ _ _ _ k mk h.ref hu' hi)⟩
    · cases hd : (m k).d
      · exact ⟨false, 0, Two.quiet h (clean_not w _ _ _ _ k mk h.mem hu (by omega) (by omega) hd) (rclean_not w _ _ _ _ _ _ k mk h.ref hu' (by omega) (by omega) (by rw [e]; exact hd))⟩
      · exact ⟨true, 0, Two.write h (clean_yes w _ _ _ _ k mk h.mem hu (by omega) (by omega) hd) (fun w1 h1 => rclean_yes w1 _ _ _ _ _ _ k mk h1 hu' (by omega) (by omega) (by rw [e]; exact hd)) (h.al.upd k (by rw [e]) (fun _ => by rw [e])) (grow (fun K _ h2 => by have := h2 k; simp; omega))⟩
theorem two_page (h : Pr w x m r) (f : Int) : ∃ (p : Nat → Nat) (c : Int), Two x m w 10 11 (fun q => #[q, .int .i64 f]) (.tuple #[.agg (page p).toArray, .int .i64 c]) := by
  rcases on_or_off m x.n f with hu | ⟨k, rfl, hu⟩
  · exact ⟨fun _ => 0, 50, Two.under h (page_off w _ _ _ _ f h.mem hu) (fun w1 h1 => rpage_off w1 _ _ _ _ _ _ f h1 (h.off hu))⟩
  · obtain ⟨hu', e⟩ := h.on hu
    exact ⟨(m k).w, 0, Two.under h (page_on w _ _ _ _ k h.mem hu) (fun w1 h1 => by rw [← e]; exact rpage_on w1 _ _ _ _ _ _ k h1 hu')⟩
theorem two_info (h : Pr w x m r) (f : Int) : ∃ (p : Fr) (c : Int), Two x m w 14 15 (fun q => #[q, .int .i64 f]) (.tuple #[.agg p.head.toArray, .int .i64 c]) := by
  rcases on_or_off m x.n f with hu | ⟨k, rfl, hu⟩
  · exact ⟨Fr.nil, 50, Two.under h (info_off w _ _ _ _ f h.mem hu) (fun w1 h1 => rinfo_off w1 _ _ _ _ _ _ f h1 (h.off hu))⟩
  · obtain ⟨hu', e⟩ := h.on hu
    exact ⟨m k, 0, Two.under h (info_on w _ _ _ _ k h.mem hu) (fun w1 h1 => by rw [← e]; exact rinfo_on w1 _ _ _ _ _ _ k h1 hu')⟩
theorem lives_al (h : Al x.n m r) : lives r x.n = lives m x.n := by
  unfold lives
  apply List.filter_congr
  intro j hj
  rw [(h j (by simpa using hj)).1]
theorem two_free (h : Pr w x m r) : ∃ c : Int, Two x m w 16 17 (fun q => #[q]) (.int .i64 c) :=
  ⟨_, Two.under h (free_any w _ _ _ _ h.mem h.n64) (fun w1 h1 => by rw [← lives_al h.al]; exact rfree_any w1 _ _ _ _ _ _ h1 h.n64)⟩
theorem first_free (m : Nat → Fr) (n : Nat) : ∃ q, (∀ j, j < q → (m j).h ≠ 0) ∧ (q = n ∨ q < n ∧ (m q).h = 0) := by
  induction n with
  | zero => exact ⟨0, fun j hj => by omega, .inl rfl⟩
  | succ n ih =>
    obtain ⟨q, h1, h2⟩ := ih
    rcases h2 with rfl | h2
    · by_cases e : (m q).h = 0
      · exact ⟨q, h1, .inr ⟨by omega, e⟩⟩
      · exact ⟨q + 1, fun j hj => by by_cases e2 : j = q; rw [e2]; exact e; exact h1 j (by omega), .inl rfl⟩
    · exact ⟨q, h1, .inr ⟨by omega, h2.2⟩⟩
theorem two_alloc (h : Pr w x m r) (s : Int) : ∃ (q c : Int), Two x m w 25 26 (fun p => #[p, .int .i64 s]) (.tuple #[.int .i64 q, .int .i64 c]) := by
  by_cases hs : s < 1 ∨ 4611686018427387903 < s
  · exact ⟨-1, 1, Two.quiet h (alloc_arg w _ s hs) (ralloc_arg w _ s hs)⟩
  · obtain ⟨q, h1, h2⟩ := first_free m x.n
    have hqn : q ≤ x.n := by omega
    have h1' : ∀ j, j < q → (r j).h ≠ 0 := fun j hj => by rw [(h.al j (by omega)).1]; exact h1 j hj
    have h2' : q = x.n ∨ q < x.n ∧ (r q).h = 0 := by rcases h2 with h2 | h2; exact .inl h2; exact .inr ⟨h2.1, by rw [(h.al q h2.1).1]; exact h2.2⟩
    by_cases e : q = x.n
    · refine ⟨-1, 2, Two.quiet h ((alloc_any w _ _ _ _ s h.mem h.n64 (by omega) (by omega) q h1 h2).mono ?_) ((ralloc_any w _ _ _ _ _ _ s h.ref h.n64 (by omega) (by omega) q h1' h2').mono ?_)⟩
      · rintro e1 w1 (h3 | h3); exact h3.2; have := h3.1; omega
      · rintro e1 w1 (h3 | h3); exact h3.2; have := h3.1; omega
    · refine ⟨q, 0, Two.write h (m' := upd m q (Fr.new s)) (r' := upd r q (Fr.new s)) ((alloc_any w _ _ _ _ s h.mem h.n64 (by omega) (by omega) q h1 h2).mono ?_) (fun w1 h4 => (ralloc_any w1 _ _ _ _ _ _ s h4 h.n64 (by omega) (by omega) q h1' h2').mono ?_) (h.al.upd q rfl (fun _ => rfl)) (grow (fun K hK _ => by simp [Fr.new]))⟩
      · rintro e1 w1 (h3 | h3); have := h3.1; omega; exact h3.2
      · rintro e1 w1 (h3 | h3); have := h3.1; omega; exact h3.2
end
end Go.Proofs.Ytmdcmpkjhflgpaa
