import Derived.Test.YtmdcmpkjhflgpaaRC
namespace Go.Proofs.Ytmdcmpkjhflgpaa
open Go.RowKit

theorem RfAt.congr' {w : World} {B G n c : Nat} {a : Option Addr} {m m' : Nat → Fr} (h : RfAt w B G n c a m) (e : ∀ f, f < n → (m f).rc = (m' f).rc) : RfAt w B G n c a m' :=
  ⟨h.top, h.at', fun hn => by obtain ⟨cs, h1, h2, h3⟩ := h.row hn; exact ⟨cs, h1, h2, fun f hf j v hv => h3 f hf j v (by rw [e f hf]; exact hv)⟩, h.ne, h.glt⟩
section
variable (w : World) (B G n c : Nat) (a : Option Addr) (m : Nat → Fr)
set_option maxHeartbeats 400000 in
theorem rsetPage_off (f : Int) (p : Nat → Nat) (h : RfAt w B G n c a m) (hu : Off m n f) :
    Calls Try.prog 34 #[.pointer (some ⟨B, 0, none⟩), .int .i64 f, .agg (page p).toArray] w fun e w' => e = .returned (.int .i64 50) ∧ Below w.heap.size w w' := by
  go_enter Try.func34, Try.ntmps34
  go_wp2_with fail
  refine (used_no _ B G n c a m f (h.alloc _) hu).mono ?_
  rintro e w1 ⟨rfl, rfl⟩
  clear h hu
  go_wp2
  go_ret
  exact ⟨rfl, (Below.refl _ _).alloc (Nat.le_refl _) _⟩
set_option maxHeartbeats 800000 in
theorem rsetPage_on (k : Nat) (p : Nat → Nat) (h : RfAt w B G n c a m) (hu : On m n k) :
    Calls Try.prog 34 #[.pointer (some ⟨B, 0, none⟩), .int .i64 (k : Int), .agg (page p).toArray] w fun e w' => e = .returned (.int .i64 0) ∧ RGo w w' B G n c a (upd m k { m k with d := true, w := p }) := by
  go_enter Try.func34, Try.ntmps34
  go_wp2_with fail
  refine (used_yes _ B G n c a m k (h.alloc _) hu).mono ?_
  rintro e w1 ⟨rfl, hw1⟩
  have hz : Pg w1 w.heap.size p := by rw [hw1]; exact ⟨heap_alloc_last w _⟩
  have hM : Mod (fun b => b = G) w w1 := by rw [hw1]; exact (Mod.refl _ w).alloc _
  have h1 : RfAt w1 B G n c a (upd m k { m k with w := mix p (m k).w 0 }) := by
    rw [hw1]; exact (h.alloc _).congr (fun f _ => by unfold upd; split; rename_i e; subst e; rfl; rfl)
  have hN : w.heap.size ≠ G := by have := h.glt; omega
  have hk := hu.1
  have hgb : ¬ G = B := fun e => h.ne (by omega) e.symm
  have ha := h.at' (by omega)
  subst ha
  have HZ := hide (And.intro hz (And.intro hM h1))
  clear hw1 h hu hz hM h1
  go_wp2
  go_loopw [7] (fun i wr => ∃ j : Nat, j ≤ 32 ∧ i = .int .i64 (j : Int) ∧ Pg wr w.heap.size p ∧ Mod (fun b => b = G) w wr ∧ RfAt wr B G n c (some ⟨G, 0, none⟩) (upd m k { m k with w := mix p (m k).w j })) (fun i _ => 32 - (intOf i).toNat)
  case atStart => exact ⟨0, by omega, rfl, HZ.out⟩
  case round =>
    obtain ⟨j, hj, rfl, hz, hM, hR⟩ := hrel
    by_cases hlt : j < 32
    · have hd : decide ((j : Int) < 32) = true := by simp; omega
      have c0 := hR.hd
      have c1 := hR.word hk hlt
      have f1 := hR.frz hk (k * 36 + 4 + j)
      have c2 := hz.cell hlt
      have hne : ¬ G = w.heap.size := fun e => hN e.symm
      have H1 : Hid (∀ wr', wr' = wr.drew → Pg (wr'.setCell ⟨G, k * 36 + 4 + j, none⟩ (.int .u32 (p j : Nat))) w.heap.size p ∧ Mod (fun b => b = G) w (wr'.setCell ⟨G, k * 36 + 4 + j, none⟩ (.int .u32 (p j : Nat))) ∧ RfAt (wr'.setCell ⟨G, k * 36 + 4 + j, none⟩ (.int .u32 (p j : Nat))) B G n c (some ⟨G, 0, none⟩) (upd m k { m k with w := mix p (m k).w (j + 1) })) := by
        refine hide (fun wr' e => ?_)
        subst e
        refine ⟨⟨by rw [heap_setCell_other _ _ _ _ hN]; exact hz.out⟩, hM.drew.setCell (.inl rfl) _, ?_⟩
        have e1 := hR.drew.put1 (o := 4 + j) (v := .int .u32 (p j : Nat)) hk (by omega) (f := { m k with w := mix p (m k).w (j + 1) }) (by rw [upd_same, ← mix_set]; exact rc_setW { m k with w := mix p (m k).w j } hlt (p j))
        rw [← Nat.add_assoc] at e1
        exact e1.congr (fun x _ => by simp only [upd]; split <;> rfl)
      clear hR hz hM
      go_wp2
      go_region
      go_wp2
      go_roundw
      case rel => exact ⟨j + 1, by omega, by go_num, H1.out _ rfl⟩
      case measure => simp [intOf]; omega
    · obtain rfl : j = 32 := by omega
      have c0 := hR.hd
      obtain ⟨_, _, _, c3⟩ := hR.cc hk
      have f3 := hR.frz hk (k * 36 + 3)
      have HR : Hid (RGo w (wr.setCell ⟨G, k * 36 + 3, none⟩ (.bool true)) B G n c (some ⟨G, 0, none⟩) (upd m k { m k with d := true, w := p })) := by
        refine hide (And.intro ?_ (hM.setCell (.inl rfl) _))
        have e2 := hR.put1 (o := 3) (v := .bool true) hk (by omega) (f := { m k with d := true, w := mix p (m k).w 32 }) (by rw [upd_same]; rfl)
        refine e2.congr' (fun j _ => ?_)
        simp only [upd]
        split
        · unfold Fr.rc; rw [page_congr (mix_all p (m k).w)]; rfl
        · rfl
      clear hR hz hM
      go_wp2
      go_ret
      exact ⟨rfl, HR.out⟩
end
end Go.Proofs.Ytmdcmpkjhflgpaa
