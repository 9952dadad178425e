import Derived.Test.YtngmnlmagbfijabBG
namespace Go.Proofs.Ytngmnlmagbfijab
open Go.RowKit
/-- what a way's choice leaves -/
def ChP (w : World) (X : Nat → Prop) (g m q n : Nat) (s : Pl) (R : List Int) (e : Ending) (w' : World) : Prop :=
  e = .returned (.int .i64 (pick s R)) ∧ ∃ X' : Nat → Prop, (∀ b, X b → X' b) ∧ (∀ b, X' b → X b ∨ w.heap.size ≤ b) ∧ (∀ b, X' b → b < w'.heap.size) ∧ WayAt w' X' m q (n + R.length) (nextP s R) ∧ Mod (fun b => X b ∧ b ≠ g ∧ b ≠ m) w w'
theorem nextP_kind (s : Pl) (R : List Int) : (nextP s R).kind = s.kind := by
  unfold nextP
  split
  · rfl
  split
  · rfl
  · rfl
theorem Mod.mono {F G : Nat → Prop} {w w' : World} (h : Mod F w w') (hFG : ∀ b, F b → G b) : Mod G w w' := ⟨h.os, h.tape, h.output, h.size, fun b hb hg => h.block b hb (fun hf => hg (hFG b hf))⟩
section
variable (w : World)
theorem ch1 (X S : Nat → Prop) (g m q n n2 : Nat) (s : Pl) (hW : WayAt w X m q n s) (R : List Int) (v : Value) (hR : Rd S w v R) (hS : ∀ b, S b → ¬ X b ∧ b < w.heap.size) (hl : R.length ≤ 1048576) (hne : R ≠ []) (hM : Mp w m n2 (admW s R)) (xq : X q) (hlt : ∀ b, X b → b < w.heap.size) (hqg : q ≠ g) (e : s.kind = 1) :
    Calls Try.prog 71 #[.pointer (some ⟨q, 0, none⟩), v, .map (some m)] w (ChP w X g m q n s R) := by
  have hqm := hW.ne hM
  rcases hW with ⟨_, hq⟩ | ⟨h1, _⟩ | ⟨h1, _⟩
  · refine (tchoose_any w S v R hR (fun b hb => (hS b hb).2) hl hne q s.last (some m) hq).mono ?_
    rintro x w' ⟨rfl, h2, h3⟩
    have hp : pick s R = pickT s.last R := by unfold pick; rw [if_pos e]
    refine ⟨by rw [hp], X, fun _ h => h, fun _ h => .inl h, fun b hb => Nat.lt_of_lt_of_le (hlt b hb) h3.size, .inl ⟨by rw [nextP_kind]; exact e, ?_⟩, h3.mono (fun b hb => by subst hb; exact ⟨xq, hqg, hqm⟩)⟩
    have : (nextP s R).last = pickT s.last R := by unfold nextP; rw [if_pos e]; exact hp
    rw [this]; exact h2
  · omega
  · omega
theorem ch2 (X S : Nat → Prop) (g m q n n2 : Nat) (s : Pl) (hO : Okp n s) (hW : WayAt w X m q n s) (R : List Int) (v : Value) (hR : Rd S w v R) (hS : ∀ b, S b → ¬ X b ∧ b < w.heap.size) (hl : R.length ≤ 1048576) (hne : R ≠ []) (hnd : R.Nodup) (hRb : ∀ k ∈ R, 1 ≤ k ∧ k ≤ 9223372036854775807) (hn : n ≤ 4194304) (hM : Mp w m n2 (admW s R)) (xq : X q) (hlt : ∀ b, X b → b < w.heap.size) (hqg : q ≠ g) (hgc : ∃ cs t fr, w.heap[g]? = some (.cells cs t fr)) (e : s.kind = 2) :
    Calls Try.prog 76 #[.pointer (some ⟨q, 0, none⟩), v, .map (some m)] w (ChP w X g m q n s R) := by
  have hqm := hW.ne hM
  have hl2 := hO.last e
  rcases hW with ⟨h1, hq⟩ | ⟨_, pm, hq, hp, xp, hpm⟩ | ⟨h1, _⟩
  · omega
  · have hqp := hp.ne hq
    have hgp : g ≠ pm := by obtain ⟨cs, t, fr, h⟩ := hgc; exact hp.ne h
    have hwb : ∀ k ∈ R, 1 ≤ val (admW s R) k ∧ val (admW s R) k ≤ 8 := fun k hk => by
      have h1 := (adm_some (s := s) hk).1
      have h2 := admW_val hO hRb h1
      unfold val; rw [h1]; exact h2.2.2
    have hpb : ∀ k ∈ R, 0 ≤ val (admK s.ps s.last R) k ∧ val (admK s.ps s.last R) k ≤ 4611686018427387904 := fun k hk => by
      rw [admK_eq]
      obtain ⟨h1, h2⟩ := adm_some (s := s) hk
      have h3 := admP_bd hO e h2 h1
      have h4 := admW_val hO hRb h1
      have h5 := stp_bd h4.2.2.1 h4.2.2.2
      unfold val; rw [h2]
      simp only [Option.getD_some] at h3 ⊢
      omega
    refine (schoose_any w S v R hR hl hnd hne q pm m n n2 s.last s.ps (admW s R) hq hp hM (fun b hb => ⟨fun h => (hS b hb).1 (by rw [h]; exact xp), (hS b hb).2⟩) hqp (Ne.symm hpm) (Ne.symm hqm) hpb hwb).mono ?_
    rintro x w' ⟨c, hc, rfl, h2, h3, h4⟩
    rw [admK_eq] at hc h2 h3
    have hpk : pick s R = c := by unfold pick; rw [if_neg (by omega), if_pos e, hc]
    have hnx : nextP s R = { s with wt := admW s R, last := val (admP s R) c, ps := upd (admP s R) c (val (admP s R) c + stp (val (admW s R) c)) } := by
      unfold nextP; rw [if_neg (by omega), if_pos e, hpk]
    refine ⟨by rw [hpk], X, fun _ h => h, fun _ h => .inl h, fun b hb => Nat.lt_of_lt_of_le (hlt b hb) h4.size, .inr (.inl ⟨by rw [nextP_kind]; exact e, pm, ?_, ?_, xp, hpm⟩), h4.mono (fun b hb => ?_)⟩
    · rw [hnx]; exact h2
    · rw [hnx]; exact h3
    · rcases hb with rfl | rfl
      · exact ⟨xp, Ne.symm hgp, hpm⟩
      · exact ⟨xq, hqg, hqm⟩
  · omega
theorem ch3 (X S : Nat → Prop) (g m q n n2 : Nat) (s : Pl) (hO : Okp n s) (hW : WayAt w X m q n s) (R : List Int) (v : Value) (hR : Rd S w v R) (hS : ∀ b, S b → ¬ X b ∧ b < w.heap.size) (hl : R.length ≤ 1048576) (hne : R ≠ []) (hRb : ∀ k ∈ R, 1 ≤ k ∧ k ≤ 9223372036854775807) (hn : n ≤ 4194304) (hM : Mp w m n2 (admW s R)) (xq : X q) (xm : X m) (hlt : ∀ b, X b → b < w.heap.size) (hqg : q ≠ g) (e : s.kind = 3) :
    Calls Try.prog 83 #[.pointer (some ⟨q, 0, none⟩), v, .map (some m)] w (ChP w X g m q n s R) := by
  have hqm := hW.ne hM
  rcases hW with ⟨h1, hq⟩ | ⟨h1, _⟩ | ⟨_, mo, hq, hmo⟩
  · omega
  · omega
  · have hL : Lk w mo n s.ps := by
      rcases hmo with h | ⟨pm, h1, h2, _⟩
      · exact .inl h
      · exact .inr ⟨pm, h1, h2⟩
    have hwb : ∀ k, 0 ≤ val (admW s R) k ∧ val (admW s R) k ≤ 8 := fun k => by
      unfold val
      cases h1 : admW s R k with
      | none => simp
      | some u => have h2 := admW_val hO hRb h1; simp; omega
    have hpb : ∀ k, 0 ≤ val s.ps k ∧ val s.ps k ≤ 8388608 := fun k => by
      unfold val
      cases h1 : s.ps k with
      | none => simp
      | some u => have h2 := hO.wait e k u h1; simp; omega
    refine (rchoose_any w S v R hR hl hne q m n n2 mo s.ps (admW s R) hq hL hM (fun b hb => (hS b hb).2) hpb hwb).mono ?_
    rintro x w' ⟨c, nm, hc, rfl, hnm, h2, h3, h4⟩
    have hpk : pick s R = c := by unfold pick; rw [if_neg (by omega), if_neg (by omega), hc]
    have hnx : nextP s R = { s with wt := admW s R, ps := fun k => if k ∈ R ∧ k ≠ c then some (val s.ps k + 1) else none } := by
      unfold nextP; rw [if_neg (by omega), if_neg (by omega), hpk]
    refine ⟨by rw [hpk], fun b => X b ∨ b = nm, fun _ h => .inl h, fun b h => ?_, fun b h => ?_, .inr (.inr ⟨by rw [nextP_kind]; exact e, some nm, h2, .inr ⟨nm, rfl, ?_, .inr rfl, ?_⟩⟩), h4.mono (fun b hb => by subst hb; exact ⟨xq, hqg, hqm⟩)⟩
    · rcases h with h | rfl
      · exact .inl h
      · exact .inr hnm
    · rcases h with h | rfl
      · exact Nat.lt_of_lt_of_le (hlt b h) h4.size
      · exact h3.lt
    · rw [hnx]; exact h3.mono (by omega)
    · have := hlt m xm; omega
end
end Go.Proofs.Ytngmnlmagbfijab
