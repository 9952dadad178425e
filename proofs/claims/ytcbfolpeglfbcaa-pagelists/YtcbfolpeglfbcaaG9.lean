import Derived.Test.YtcbfolpeglfbcaaG8
namespace Go.Proofs.Ytcbfolpeglfbcaa
open Go.RowKit
/-- a step -/
structure Ost where
  kd : Int
  t : Int
  v : Int
  s : Int
  b : Bool
  ad : Nat
  la : Option Addr
  ll : Nat
  lc : Nat
  Z : Nat → Mp
def Ost.cells (o : Ost) : List Value := [.int .i64 o.kd, .int .i64 o.t, .int .i64 o.v, .int .i64 o.s, .bool o.b, .int .u32 (o.ad : Nat), .slice o.la o.ll o.lc]
/-- what a step answers and does -/
def Step (m : Nat → E) (o : Ost) : Int → (Nat → E) → Prop := fun z0 z1 => ∀ M : Int → (Nat → E) → Prop, (∀ (_ : o.kd = 1) (_ : code m o.v o.s ≠ 0), M (code m o.v o.s) m) → (∀ (_ : o.kd = 1) (_ : code m o.v o.s = 0), M 0 (upd m o.v.toNat (some (o.s.toNat, o.b)))) → (∀ (_ : o.kd = 2 ∨ o.kd = 3) (_ : NoPage o.v), M 60 m) → (∀ (_ : o.kd = 2 ∨ o.kd = 3) (k : Nat) (_ : o.v = k) (_ : k < 16) (_ : m k = none), M 62 m) → (∀ (_ : o.kd = 2) (k : Nat) (_ : o.v = k) (_ : k < 16) (x : Nat × Bool) (_ : m k = some x), M 0 (upd m k none)) → (∀ (_ : o.kd = 3) (k : Nat) (_ : o.v = k) (_ : k < 16) (s : Nat) (c : Bool) (_ : m k = some (s, c)), M 0 (upd m k (some (s, o.b)))) → (∀ (_ : o.kd = 6), M 0 (fg m o.s 16)) → (∀ (_ : o.kd = 8) (c : Int) (_ : lay o.Z o.ll = .error c), M c m) → (∀ (_ : o.kd = 8) (m' : Nat → E) (_ : lay o.Z o.ll = .ok m'), M 0 m') → (∀ (_ : o.kd ≠ 1) (_ : o.kd ≠ 2) (_ : o.kd ≠ 3) (_ : o.kd ≠ 6) (_ : o.kd ≠ 8), M 0 m) → M z0 z1
theorem Step.mapNo {m : Nat → E} {o : Ost} (hk : o.kd = 1) (hc : code m o.v o.s ≠ 0) : Step m o (code m o.v o.s) m := fun _ c0 _ _ _ _ _ _ _ _ _ => c0 hk hc
theorem Step.mapOk {m : Nat → E} {o : Ost} (hk : o.kd = 1) (hc : code m o.v o.s = 0) : Step m o 0 (upd m o.v.toNat (some (o.s.toNat, o.b))) := fun _ _ c1 _ _ _ _ _ _ _ _ => c1 hk hc
theorem Step.page {m : Nat → E} {o : Ost} (hk : o.kd = 2 ∨ o.kd = 3) (hv : NoPage o.v) : Step m o 60 m := fun _ _ _ c2 _ _ _ _ _ _ _ => c2 hk hv
theorem Step.un {m : Nat → E} {o : Ost} (hk : o.kd = 2 ∨ o.kd = 3) (k : Nat) (hv : o.v = k) (hl : k < 16) (hm : m k = none) : Step m o 62 m := fun _ _ _ _ c3 _ _ _ _ _ _ => c3 hk k hv hl hm
theorem Step.unmap {m : Nat → E} {o : Ost} (hk : o.kd = 2) (k : Nat) (hv : o.v = k) (hl : k < 16) (x : Nat × Bool) (hm : m k = some x) : Step m o 0 (upd m k none) := fun _ _ _ _ _ c4 _ _ _ _ _ => c4 hk k hv hl x hm
theorem Step.prot {m : Nat → E} {o : Ost} (hk : o.kd = 3) (k : Nat) (hv : o.v = k) (hl : k < 16) (s : Nat) (c : Bool) (hm : m k = some (s, c)) : Step m o 0 (upd m k (some (s, o.b))) := fun _ _ _ _ _ _ c5 _ _ _ _ => c5 hk k hv hl s c hm
theorem Step.forget {m : Nat → E} {o : Ost} (hk : o.kd = 6) : Step m o 0 (fg m o.s 16) := fun _ _ _ _ _ _ _ c6 _ _ _ => c6 hk
theorem Step.loadNo {m : Nat → E} {o : Ost} (hk : o.kd = 8) (c : Int) (hl : lay o.Z o.ll = .error c) : Step m o c m := fun _ _ _ _ _ _ _ _ c7 _ _ => c7 hk c hl
theorem Step.loadOk {m : Nat → E} {o : Ost} (hk : o.kd = 8) (m' : Nat → E) (hl : lay o.Z o.ll = .ok m') : Step m o 0 m' := fun _ _ _ _ _ _ _ _ _ c8 _ => c8 hk m' hl
theorem Step.other {m : Nat → E} {o : Ost} (h1 : o.kd ≠ 1) (h2 : o.kd ≠ 2) (h3 : o.kd ≠ 3) (h6 : o.kd ≠ 6) (h8 : o.kd ≠ 8) : Step m o 0 m := fun _ _ _ _ _ _ _ _ _ _ c9 => c9 h1 h2 h3 h6 h8
theorem Step.ind {m : Nat → E} {o : Ost} {motive : ∀ (z0 : Int) (z1 : (Nat → E)), Step m o z0 z1 → Prop} (mapNo : ∀ (hk : o.kd = 1) (hc : code m o.v o.s ≠ 0), motive (code m o.v o.s) m (Step.mapNo hk hc)) (mapOk : ∀ (hk : o.kd = 1) (hc : code m o.v o.s = 0), motive 0 (upd m o.v.toNat (some (o.s.toNat, o.b))) (Step.mapOk hk hc)) (page : ∀ (hk : o.kd = 2 ∨ o.kd = 3) (hv : NoPage o.v), motive 60 m (Step.page hk hv)) (un : ∀ (hk : o.kd = 2 ∨ o.kd = 3) (k : Nat) (hv : o.v = k) (hl : k < 16) (hm : m k = none), motive 62 m (Step.un hk k hv hl hm)) (unmap : ∀ (hk : o.kd = 2) (k : Nat) (hv : o.v = k) (hl : k < 16) (x : Nat × Bool) (hm : m k = some x), motive 0 (upd m k none) (Step.unmap hk k hv hl x hm)) (prot : ∀ (hk : o.kd = 3) (k : Nat) (hv : o.v = k) (hl : k < 16) (s : Nat) (c : Bool) (hm : m k = some (s, c)), motive 0 (upd m k (some (s, o.b))) (Step.prot hk k hv hl s c hm)) (forget : ∀ (hk : o.kd = 6), motive 0 (fg m o.s 16) (Step.forget hk)) (loadNo : ∀ (hk : o.kd = 8) (c : Int) (hl : lay o.Z o.ll = .error c), motive c m (Step.loadNo hk c hl)) (loadOk : ∀ (hk : o.kd = 8) (m' : Nat → E) (hl : lay o.Z o.ll = .ok m'), motive 0 m' (Step.loadOk hk m' hl)) (other : ∀ (h1 : o.kd ≠ 1) (h2 : o.kd ≠ 2) (h3 : o.kd ≠ 3) (h6 : o.kd ≠ 6) (h8 : o.kd ≠ 8), motive 0 m (Step.other h1 h2 h3 h6 h8)) {z0 : Int} {z1 : (Nat → E)} (h : Step m o z0 z1) : motive z0 z1 h := by
  refine Exists.elim (h (fun z0 z1 => ∃ h : Step m o z0 z1, motive z0 z1 h) ?_ ?_ ?_ ?_ ?_ ?_ ?_ ?_ ?_ ?_) (fun _ p => p)
  · rintro hk hc; exact ⟨Step.mapNo hk hc, mapNo hk hc⟩
  · rintro hk hc; exact ⟨Step.mapOk hk hc, mapOk hk hc⟩
  · rintro hk hv; exact ⟨Step.page hk hv, page hk hv⟩
  · rintro hk k hv hl hm; exact ⟨Step.un hk k hv hl hm, un hk k hv hl hm⟩
  · rintro hk k hv hl x hm; exact ⟨Step.unmap hk k hv hl x hm, unmap hk k hv hl x hm⟩
  · rintro hk k hv hl s c hm; exact ⟨Step.prot hk k hv hl s c hm, prot hk k hv hl s c hm⟩
  · rintro hk; exact ⟨Step.forget hk, forget hk⟩
  · rintro hk c hl; exact ⟨Step.loadNo hk c hl, loadNo hk c hl⟩
  · rintro hk m' hl; exact ⟨Step.loadOk hk m' hl, loadOk hk m' hl⟩
  · rintro h1 h2 h3 h6 h8; exact ⟨Step.other h1 h2 h3 h6 h8, other h1 h2 h3 h6 h8⟩
theorem Step.sm {m m' : Nat → E} {o : Ost} {c : Int} (h : Step m o c m') (hs : Sm m) : Sm m' := by
  cases h using Step.ind with
  | mapNo _ _ => exact hs
  | mapOk _ hc =>
    obtain ⟨k, t, _, h3, _, h4, _⟩ := code_ok hc
    exact hs.upd (by omega)
  | page _ _ => exact hs
  | un _ _ _ _ _ => exact hs
  | unmap _ _ _ _ _ _ => exact hs.none
  | prot _ k _ _ s c hm => exact hs.upd (hs k s c hm)
  | forget _ =>
    intro v s b h
    unfold fg at h
    split at h
    · simp at h
    · exact hs v s b h
  | loadNo _ _ _ => exact hs
  | loadOk _ _ hl => exact lay_sm hl
  | other _ _ _ _ _ => exact hs
theorem TGo.refl {w : World} {B : Nat} {m : Nat → E} (h : Tb w B m) : TGo w w B m := ⟨h, Mod.refl _ _⟩
theorem TGo.below {w w' : World} {B : Nat} {m : Nat → E} (h : Tb w B m) (hb : Below w.heap.size w w') : TGo w w' B m := ⟨h.below hb, Mod.of_below hb⟩
theorem TGo.after {w w' w'' : World} {B : Nat} {m : Nat → E} (hb : Below w.heap.size w w') (h : TGo w' w'' B m) : TGo w w'' B m := ⟨h.1, (Mod.of_below hb).trans h.2⟩
section
variable (w : World) (B : Nat) (m : Nat → E) (o : Ost)
set_option maxRecDepth 10000 in
set_option maxHeartbeats 1000000 in
theorem done_1 (h : Tb w B m) (hk0 : o.kd = 1) :
    Calls Try.prog 11 #[.pointer (some ⟨B, 0, none⟩), .agg o.cells.toArray] w fun e w' => ∃ c m', e = .returned (.int .i64 c) ∧ Step m o c m' ∧ TGo w w' B m' := by
  have HK := hide hk0
  clear hk0
  have e0 : o.cells.toArray = #[.int .i64 o.kd, .int .i64 o.t, .int .i64 o.v, .int .i64 o.s, .bool o.b, .int .u32 (o.ad : Nat), .slice o.la o.ll o.lc] := rfl
  rw [e0]
  have hB0 : Below w.heap.size w (w.alloc (.cells #[.int .i64 o.kd, .int .i64 o.t, .int .i64 o.v, .int .i64 o.s, .bool o.b, .int .u32 (o.ad : Nat), .slice o.la o.ll o.lc] 31)) := (Below.refl _ _).alloc (Nat.le_refl _) _
  have hz0 := heap_alloc_last w (.cells #[.int .i64 o.kd, .int .i64 o.t, .int .i64 o.v, .int .i64 o.s, .bool o.b, .int .u32 (o.ad : Nat), .slice o.la o.ll o.lc] 31)
  have h1 := h.below hB0
  go_enter Try.func11, Try.ntmps11
  go_upto_region 1 with fail
  generalize w.alloc (.cells #[.int .i64 o.kd, .int .i64 o.t, .int .i64 o.v, .int .i64 o.s, .bool o.b, .int .u32 (o.ad : Nat), .slice o.la o.ll o.lc] 31) = w0 at *
  have c0 : w0.cell? ⟨w.heap.size, 0, none⟩ = some (.int .i64 o.kd) := by rw [cell_of_row _ _ 0 _ _ _ hz0]; rfl
  have c2 : w0.cell? ⟨w.heap.size, 2, none⟩ = some (.int .i64 o.v) := by rw [cell_of_row _ _ 2 _ _ _ hz0]; rfl
  have c3 : w0.cell? ⟨w.heap.size, 3, none⟩ = some (.int .i64 o.s) := by rw [cell_of_row _ _ 3 _ _ _ hz0]; rfl
  have c4 : w0.cell? ⟨w.heap.size, 4, none⟩ = some (.bool o.b) := by rw [cell_of_row _ _ 4 _ _ _ hz0]; rfl
  have c6 : w0.cell? ⟨w.heap.size, 6, none⟩ = some (.slice o.la o.ll o.lc) := by rw [cell_of_row _ _ 6 _ _ _ hz0]; rfl
  have HB := hide hB0
  clear hz0 hB0 e0
  have hk := HK.out
  rw [hk] at c0
  by_cases hc : code m o.v o.s = 0
  · go_wp2_with fail
    refine (map_good w0 B m _ _ _ h1 hc).mono ?_
    rintro e w1 ⟨rfl, hg⟩
    have HG := hide hg
    clear hg h1
    clear c0 c2 c3 c4 c6
    go_wp2
    go_ret
    exact ⟨_, _, rfl, .mapOk hk hc, HG.out.after HB.out⟩
  · go_wp2_with fail
    refine (map_bad w0 B m _ _ _ h1 hc).mono ?_
    rintro e w1 ⟨rfl, rfl⟩
    have H1 := hide h1
    clear h1
    generalize hq : code m o.v o.s = c at *
    clear c0 c2 c3 c4 c6
    go_wp2
    go_ret
    exact ⟨_, _, rfl, by rw [← hq]; exact .mapNo hk (by rw [hq]; exact hc), TGo.below h HB.out⟩
set_option maxRecDepth 10000 in
set_option maxHeartbeats 1000000 in
theorem done_2 (h : Tb w B m) (hk0 : o.kd = 2) :
    Calls Try.prog 11 #[.pointer (some ⟨B, 0, none⟩), .agg o.cells.toArray] w fun e w' => ∃ c m', e = .returned (.int .i64 c) ∧ Step m o c m' ∧ TGo w w' B m' := by
  have HK := hide hk0
  clear hk0
  have e0 : o.cells.toArray = #[.int .i64 o.kd, .int .i64 o.t, .int .i64 o.v, .int .i64 o.s, .bool o.b, .int .u32 (o.ad : Nat), .slice o.la o.ll o.lc] := rfl
  rw [e0]
  have hB0 : Below w.heap.size w (w.alloc (.cells #[.int .i64 o.kd, .int .i64 o.t, .int .i64 o.v, .int .i64 o.s, .bool o.b, .int .u32 (o.ad : Nat), .slice o.la o.ll o.lc] 31)) := (Below.refl _ _).alloc (Nat.le_refl _) _
  have hz0 := heap_alloc_last w (.cells #[.int .i64 o.kd, .int .i64 o.t, .int .i64 o.v, .int .i64 o.s, .bool o.b, .int .u32 (o.ad : Nat), .slice o.la o.ll o.lc] 31)
  have h1 := h.below hB0
  go_enter Try.func11, Try.ntmps11
  go_upto_region 1 with fail
  generalize w.alloc (.cells #[.int .i64 o.kd, .int .i64 o.t, .int .i64 o.v, .int .i64 o.s, .bool o.b, .int .u32 (o.ad : Nat), .slice o.la o.ll o.lc] 31) = w0 at *
  have c0 : w0.cell? ⟨w.heap.size, 0, none⟩ = some (.int .i64 o.kd) := by rw [cell_of_row _ _ 0 _ _ _ hz0]; rfl
  have c2 : w0.cell? ⟨w.heap.size, 2, none⟩ = some (.int .i64 o.v) := by rw [cell_of_row _ _ 2 _ _ _ hz0]; rfl
  have c3 : w0.cell? ⟨w.heap.size, 3, none⟩ = some (.int .i64 o.s) := by rw [cell_of_row _ _ 3 _ _ _ hz0]; rfl
  have c4 : w0.cell? ⟨w.heap.size, 4, none⟩ = some (.bool o.b) := by rw [cell_of_row _ _ 4 _ _ _ hz0]; rfl
  have c6 : w0.cell? ⟨w.heap.size, 6, none⟩ = some (.slice o.la o.ll o.lc) := by rw [cell_of_row _ _ 6 _ _ _ hz0]; rfl
  have HB := hide hB0
  clear hz0 hB0 e0
  have hk := HK.out
  rw [hk] at c0
  by_cases hv : NoPage o.v
  · go_wp2_with fail
    refine (unmap_no w0 B o.v hv).mono ?_
    rintro e w1 ⟨rfl, rfl⟩
    clear h1
    clear c0 c2 c3 c4 c6
    go_wp2
    go_ret
    exact ⟨_, _, rfl, .page (.inl hk) hv, TGo.below h HB.out⟩
  · obtain ⟨k, hv2⟩ : ∃ k : Nat, o.v = k := Int.eq_ofNat_of_zero_le (a := o.v) (by unfold NoPage at hv; omega)
    have hl : k < 16 := by unfold NoPage at hv; omega
    rw [hv2] at c2
    rcases hm : m k with _ | ⟨s, c⟩
    · go_wp2_with fail
      refine (unmap_un w0 B m k h1 hl hm).mono ?_
      rintro e w1 ⟨rfl, rfl⟩
      clear h1
      clear c0 c2 c3 c4 c6
      go_wp2
      go_ret
      exact ⟨_, _, rfl, .un (.inl hk) k hv2 hl hm, TGo.below h HB.out⟩
    · go_wp2_with fail
      refine (unmap_ok w0 B m k h1 hl _ hm).mono ?_
      rintro e w1 ⟨rfl, hg⟩
      have HG := hide hg
      clear hg h1
      clear c0 c2 c3 c4 c6
      go_wp2
      go_ret
      exact ⟨_, _, rfl, .unmap hk k hv2 hl _ hm, HG.out.after HB.out⟩
set_option maxRecDepth 10000 in
set_option maxHeartbeats 1000000 in
theorem done_3 (h : Tb w B m) (hk0 : o.kd = 3) :
    Calls Try.prog 11 #[.pointer (some ⟨B, 0, none⟩), .agg o.cells.toArray] w fun e w' => ∃ c m', e = .returned (.int .i64 c) ∧ Step m o c m' ∧ TGo w w' B m' := by
  have HK := hide hk0
  clear hk0
  have e0 : o.cells.toArray = #[.int .i64 o.kd, .int .i64 o.t, .int .i64 o.v, .int .i64 o.s, .bool o.b, .int .u32 (o.ad : Nat), .slice o.la o.ll o.lc] := rfl
  rw [e0]
  have hB0 : Below w.heap.size w (w.alloc (.cells #[.int .i64 o.kd, .int .i64 o.t, .int .i64 o.v, .int .i64 o.s, .bool o.b, .int .u32 (o.ad : Nat), .slice o.la o.ll o.lc] 31)) := (Below.refl _ _).alloc (Nat.le_refl _) _
  have hz0 := heap_alloc_last w (.cells #[.int .i64 o.kd, .int .i64 o.t, .int .i64 o.v, .int .i64 o.s, .bool o.b, .int .u32 (o.ad : Nat), .slice o.la o.ll o.lc] 31)
  have h1 := h.below hB0
  go_enter Try.func11, Try.ntmps11
  go_upto_region 1 with fail
  generalize w.alloc (.cells #[.int .i64 o.kd, .int .i64 o.t, .int .i64 o.v, .int .i64 o.s, .bool o.b, .int .u32 (o.ad : Nat), .slice o.la o.ll o.lc] 31) = w0 at *
  have c0 : w0.cell? ⟨w.heap.size, 0, none⟩ = some (.int .i64 o.kd) := by rw [cell_of_row _ _ 0 _ _ _ hz0]; rfl
  have c2 : w0.cell? ⟨w.heap.size, 2, none⟩ = some (.int .i64 o.v) := by rw [cell_of_row _ _ 2 _ _ _ hz0]; rfl
  have c3 : w0.cell? ⟨w.heap.size, 3, none⟩ = some (.int .i64 o.s) := by rw [cell_of_row _ _ 3 _ _ _ hz0]; rfl
  have c4 : w0.cell? ⟨w.heap.size, 4, none⟩ = some (.bool o.b) := by rw [cell_of_row _ _ 4 _ _ _ hz0]; rfl
  have c6 : w0.cell? ⟨w.heap.size, 6, none⟩ = some (.slice o.la o.ll o.lc) := by rw [cell_of_row _ _ 6 _ _ _ hz0]; rfl
  have HB := hide hB0
  clear hz0 hB0 e0
  have hk := HK.out
  rw [hk] at c0
  by_cases hv : NoPage o.v
  · go_wp2_with fail
    refine (protect_no w0 B o.v o.b hv).mono ?_
    rintro e w1 ⟨rfl, rfl⟩
    clear h1
    clear c0 c2 c3 c4 c6
    go_wp2
    go_ret
    exact ⟨_, _, rfl, .page (.inr hk) hv, TGo.below h HB.out⟩
  · obtain ⟨k, hv2⟩ : ∃ k : Nat, o.v = k := Int.eq_ofNat_of_zero_le (a := o.v) (by unfold NoPage at hv; omega)
    have hl : k < 16 := by unfold NoPage at hv; omega
    rw [hv2] at c2
    rcases hm : m k with _ | ⟨s, c⟩
    · go_wp2_with fail
      refine (protect_un w0 B m k o.b h1 hl hm).mono ?_
      rintro e w1 ⟨rfl, rfl⟩
      clear h1
      clear c0 c2 c3 c4 c6
      go_wp2
      go_ret
      exact ⟨_, _, rfl, .un (.inr hk) k hv2 hl hm, TGo.below h HB.out⟩
    · go_wp2_with fail
      refine (protect_ok w0 B m k o.b h1 hl s c hm).mono ?_
      rintro e w1 ⟨rfl, hg⟩
      have HG := hide hg
      clear hg h1
      clear c0 c2 c3 c4 c6
      go_wp2
      go_ret
      exact ⟨_, _, rfl, .prot hk k hv2 hl s c hm, HG.out.after HB.out⟩
set_option maxRecDepth 10000 in
set_option maxHeartbeats 1000000 in
theorem done_6 (h : Tb w B m) (hk0 : o.kd = 6) :
    Calls Try.prog 11 #[.pointer (some ⟨B, 0, none⟩), .agg o.cells.toArray] w fun e w' => ∃ c m', e = .returned (.int .i64 c) ∧ Step m o c m' ∧ TGo w w' B m' := by
  have HK := hide hk0
  clear hk0
  have e0 : o.cells.toArray = #[.int .i64 o.kd, .int .i64 o.t, .int .i64 o.v, .int .i64 o.s, .bool o.b, .int .u32 (o.ad : Nat), .slice o.la o.ll o.lc] := rfl
  rw [e0]
  have hB0 : Below w.heap.size w (w.alloc (.cells #[.int .i64 o.kd, .int .i64 o.t, .int .i64 o.v, .int .i64 o.s, .bool o.b, .int .u32 (o.ad : Nat), .slice o.la o.ll o.lc] 31)) := (Below.refl _ _).alloc (Nat.le_refl _) _
  have hz0 := heap_alloc_last w (.cells #[.int .i64 o.kd, .int .i64 o.t, .int .i64 o.v, .int .i64 o.s, .bool o.b, .int .u32 (o.ad : Nat), .slice o.la o.ll o.lc] 31)
  have h1 := h.below hB0
  go_enter Try.func11, Try.ntmps11
  go_upto_region 1 with fail
  generalize w.alloc (.cells #[.int .i64 o.kd, .int .i64 o.t, .int .i64 o.v, .int .i64 o.s, .bool o.b, .int .u32 (o.ad : Nat), .slice o.la o.ll o.lc] 31) = w0 at *
  have c0 : w0.cell? ⟨w.heap.size, 0, none⟩ = some (.int .i64 o.kd) := by rw [cell_of_row _ _ 0 _ _ _ hz0]; rfl
  have c2 : w0.cell? ⟨w.heap.size, 2, none⟩ = some (.int .i64 o.v) := by rw [cell_of_row _ _ 2 _ _ _ hz0]; rfl
  have c3 : w0.cell? ⟨w.heap.size, 3, none⟩ = some (.int .i64 o.s) := by rw [cell_of_row _ _ 3 _ _ _ hz0]; rfl
  have c4 : w0.cell? ⟨w.heap.size, 4, none⟩ = some (.bool o.b) := by rw [cell_of_row _ _ 4 _ _ _ hz0]; rfl
  have c6 : w0.cell? ⟨w.heap.size, 6, none⟩ = some (.slice o.la o.ll o.lc) := by rw [cell_of_row _ _ 6 _ _ _ hz0]; rfl
  have HB := hide hB0
  clear hz0 hB0 e0
  have hk := HK.out
  rw [hk] at c0
  go_wp2_with fail
  refine (forget_any w0 B m o.s h1).mono ?_
  rintro e w1 ⟨rfl, hg⟩
  have HG := hide hg
  clear hg h1
  clear c0 c2 c3 c4 c6
  go_wp2
  go_ret
  exact ⟨_, _, rfl, .forget hk, HG.out.after HB.out⟩
set_option maxRecDepth 10000 in
set_option maxHeartbeats 1000000 in
theorem done_8 (h : Tb w B m) (hz : IsMaps w o.la o.ll o.Z) (hll : o.ll ≤ maxLen) (hk0 : o.kd = 8) :
    Calls Try.prog 11 #[.pointer (some ⟨B, 0, none⟩), .agg o.cells.toArray] w fun e w' => ∃ c m', e = .returned (.int .i64 c) ∧ Step m o c m' ∧ TGo w w' B m' := by
  have HK := hide hk0
  clear hk0
  have e0 : o.cells.toArray = #[.int .i64 o.kd, .int .i64 o.t, .int .i64 o.v, .int .i64 o.s, .bool o.b, .int .u32 (o.ad : Nat), .slice o.la o.ll o.lc] := rfl
  rw [e0]
  have hB0 : Below w.heap.size w (w.alloc (.cells #[.int .i64 o.kd, .int .i64 o.t, .int .i64 o.v, .int .i64 o.s, .bool o.b, .int .u32 (o.ad : Nat), .slice o.la o.ll o.lc] 31)) := (Below.refl _ _).alloc (Nat.le_refl _) _
  have hz0 := heap_alloc_last w (.cells #[.int .i64 o.kd, .int .i64 o.t, .int .i64 o.v, .int .i64 o.s, .bool o.b, .int .u32 (o.ad : Nat), .slice o.la o.ll o.lc] 31)
  have h1 := h.below hB0
  go_enter Try.func11, Try.ntmps11
  go_upto_region 1 with fail
  generalize w.alloc (.cells #[.int .i64 o.kd, .int .i64 o.t, .int .i64 o.v, .int .i64 o.s, .bool o.b, .int .u32 (o.ad : Nat), .slice o.la o.ll o.lc] 31) = w0 at *
  have c0 : w0.cell? ⟨w.heap.size, 0, none⟩ = some (.int .i64 o.kd) := by rw [cell_of_row _ _ 0 _ _ _ hz0]; rfl
  have c2 : w0.cell? ⟨w.heap.size, 2, none⟩ = some (.int .i64 o.v) := by rw [cell_of_row _ _ 2 _ _ _ hz0]; rfl
  have c3 : w0.cell? ⟨w.heap.size, 3, none⟩ = some (.int .i64 o.s) := by rw [cell_of_row _ _ 3 _ _ _ hz0]; rfl
  have c4 : w0.cell? ⟨w.heap.size, 4, none⟩ = some (.bool o.b) := by rw [cell_of_row _ _ 4 _ _ _ hz0]; rfl
  have c6 : w0.cell? ⟨w.heap.size, 6, none⟩ = some (.slice o.la o.ll o.lc) := by rw [cell_of_row _ _ 6 _ _ _ hz0]; rfl
  have HB := hide hB0
  clear hz0 hB0 e0
  have hk := HK.out
  rw [hk] at c0
  have hz1 := hz.below HB.out
  go_wp2_with fail
  refine (load_any w0 B m o.la o.ll o.lc o.Z h1 hz1 hll).mono ?_
  rintro e w1 (⟨c, hl, rfl, hb⟩ | ⟨m', hl, rfl, hg⟩)
  · have HG := hide hb
    clear hb h1 hz hz1
    clear c0 c2 c3 c4 c6
    go_wp2
    go_ret
    exact ⟨_, _, rfl, .loadNo hk c hl, TGo.below h (HB.out.trans (HG.out.mono HB.out.size))⟩
  · have HG := hide hg
    clear hg h1 hz hz1
    clear c0 c2 c3 c4 c6
    go_wp2
    go_ret
    exact ⟨_, _, rfl, .loadOk hk _ hl, HG.out.after HB.out⟩
set_option maxRecDepth 10000 in
set_option maxHeartbeats 1000000 in
theorem done_else (h : Tb w B m) (k1 : ¬ o.kd = 1) (k2 : ¬ o.kd = 2) (k3 : ¬ o.kd = 3) (k6 : ¬ o.kd = 6) (k8 : ¬ o.kd = 8) :
    Calls Try.prog 11 #[.pointer (some ⟨B, 0, none⟩), .agg o.cells.toArray] w fun e w' => ∃ c m', e = .returned (.int .i64 c) ∧ Step m o c m' ∧ TGo w w' B m' := by
  have e0 : o.cells.toArray = #[.int .i64 o.kd, .int .i64 o.t, .int .i64 o.v, .int .i64 o.s, .bool o.b, .int .u32 (o.ad : Nat), .slice o.la o.ll o.lc] := rfl
  rw [e0]
  have hB0 : Below w.heap.size w (w.alloc (.cells #[.int .i64 o.kd, .int .i64 o.t, .int .i64 o.v, .int .i64 o.s, .bool o.b, .int .u32 (o.ad : Nat), .slice o.la o.ll o.lc] 31)) := (Below.refl _ _).alloc (Nat.le_refl _) _
  have hz0 := heap_alloc_last w (.cells #[.int .i64 o.kd, .int .i64 o.t, .int .i64 o.v, .int .i64 o.s, .bool o.b, .int .u32 (o.ad : Nat), .slice o.la o.ll o.lc] 31)
  have h1 := h.below hB0
  go_enter Try.func11, Try.ntmps11
  go_upto_region 1 with fail
  generalize w.alloc (.cells #[.int .i64 o.kd, .int .i64 o.t, .int .i64 o.v, .int .i64 o.s, .bool o.b, .int .u32 (o.ad : Nat), .slice o.la o.ll o.lc] 31) = w0 at *
  have c0 : w0.cell? ⟨w.heap.size, 0, none⟩ = some (.int .i64 o.kd) := by rw [cell_of_row _ _ 0 _ _ _ hz0]; rfl
  have c2 : w0.cell? ⟨w.heap.size, 2, none⟩ = some (.int .i64 o.v) := by rw [cell_of_row _ _ 2 _ _ _ hz0]; rfl
  have c3 : w0.cell? ⟨w.heap.size, 3, none⟩ = some (.int .i64 o.s) := by rw [cell_of_row _ _ 3 _ _ _ hz0]; rfl
  have c4 : w0.cell? ⟨w.heap.size, 4, none⟩ = some (.bool o.b) := by rw [cell_of_row _ _ 4 _ _ _ hz0]; rfl
  have c6 : w0.cell? ⟨w.heap.size, 6, none⟩ = some (.slice o.la o.ll o.lc) := by rw [cell_of_row _ _ 6 _ _ _ hz0]; rfl
  have HB := hide hB0
  clear hz0 hB0 e0
  clear h1 c2 c3 c4 c6
  go_wp2
  go_ret
  exact ⟨_, _, rfl, .other k1 k2 k3 k6 k8, TGo.below h HB.out⟩
theorem done_any (h : Tb w B m) (hz : IsMaps w o.la o.ll o.Z) (hll : o.ll ≤ maxLen) :
    Calls Try.prog 11 #[.pointer (some ⟨B, 0, none⟩), .agg o.cells.toArray] w fun e w' => ∃ c m', e = .returned (.int .i64 c) ∧ Step m o c m' ∧ TGo w w' B m' := by
  by_cases k1 : o.kd = 1
  · exact done_1 w B m o h k1
  by_cases k2 : o.kd = 2
  · exact done_2 w B m o h k2
  by_cases k3 : o.kd = 3
  · exact done_3 w B m o h k3
  by_cases k6 : o.kd = 6
  · exact done_6 w B m o h k6
  by_cases k8 : o.kd = 8
  · exact done_8 w B m o h hz hll k8
  exact done_else w B m o h k1 k2 k3 k6 k8
end
end Go.Proofs.Ytcbfolpeglfbcaa
