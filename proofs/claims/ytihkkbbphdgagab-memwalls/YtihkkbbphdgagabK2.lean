import Derived.Test.YtihkkbbphdgagabK1
namespace Go.Proofs.Ytihkkbbphdgagab
open Go.RowKit

/-- what 'play' leaves -/
def Plays (w w' : World) (B G n : Nat) (m : Nat → Fr) (o : Ost) : Prop := ∃ m', Eff n m o m' ∧ MGo w w' B G n m'
theorem Plays.of_go {w w0 w' : World} {B G n : Nat} {m m' : Nat → Fr} {o : Ost} (hb : Below w.heap.size w w0) (he : Eff n m o m') (hg : MGo w0 w' B G n m') : Plays w w' B G n m o :=
  ⟨m', he, hg.1, (Mod.of_below hb).trans hg.2⟩
theorem Plays.of_below {w w0 w' : World} {B G n : Nat} {m : Nat → Fr} {o : Ost} (hb : Below w.heap.size w w0) (h0 : MemAt w0 B G n m) (he : Eff n m o m) (hg : Below w0.heap.size w0 w') : Plays w w' B G n m o :=
  ⟨m, he, h0.below hg, Mod.of_below (hb.trans (hg.mono hb.size))⟩
theorem Plays.of_same {w w0 : World} {B G n : Nat} {m : Nat → Fr} {o : Ost} (hb : Below w.heap.size w w0) (h0 : MemAt w0 B G n m) (he : Eff n m o m) : Plays w w0 B G n m o :=
  Plays.of_below hb h0 he (Below.refl _ _)
section
variable (w : World) (B G n : Nat) (m : Nat → Fr) (o : Ost)
set_option maxRecDepth 10000 in
set_option maxHeartbeats 1000000 in
theorem play_1 (h : MemAt w B G n m) (hn : n ≤ 64) (hk : o.kd = 1) :
    Calls Try.prog 10 #[.pointer (some ⟨B, 0, none⟩), .agg o.cells.toArray] w fun e w' => e = .returned (.tuple #[]) ∧ Plays w w' B G n m o := by
  have hO := Ob.new w o
  have hB0 : Below w.heap.size w (w.alloc (.cells o.cells.toArray 34)) := (Below.refl _ _).alloc (Nat.le_refl _) _
  have h1 := h.below hB0
  go_enter Try.func10, Try.ntmps10
  go_upto_region 1 with fail
  generalize w.alloc (.cells o.cells.toArray 34) = w0 at *
  obtain ⟨_, c1, c2, c3, c4, c5⟩ := hO.c
  have r5 := hO.pg
  rw [hk] at c1
  have HK := hide hk
  have HB := hide hB0
  have H1 := hide h1
  clear hO h hk hB0 h1
  by_cases g : o.na < 1 ∨ 4611686018427387903 < o.na
  · go_wp2_with fail
    refine (alloc_arg w0 B o.na g).mono ?_
    rintro e w1 ⟨rfl, rfl⟩
    go_wp2
    go_end0
    exact ⟨rfl, Plays.of_same HB.out H1.out (.same (fun e => by rw [HK.out] at e; exact absurd e (by decide)) (fun e => by rw [HK.out] at e; exact absurd e (by decide)) (fun e => by rw [HK.out] at e; exact absurd e (by decide)))⟩
  · rcases first_free m n with hf | ⟨q, q1, q2, q3⟩
    · go_wp2_with fail
      refine (alloc_full w0 B G n m o.na H1.out hn (by omega) (by omega) hf).mono ?_
      rintro e w1 ⟨rfl, rfl⟩
      go_wp2
      go_end0
      exact ⟨rfl, Plays.of_same HB.out H1.out (.same (fun e => by rw [HK.out] at e; exact absurd e (by decide)) (fun e => by rw [HK.out] at e; exact absurd e (by decide)) (fun e => by rw [HK.out] at e; exact absurd e (by decide)))⟩
    · go_wp2_with fail
      refine (alloc_ok w0 B G n m o.na H1.out hn (by omega) (by omega) q q3 q1 q2).mono ?_
      rintro e w1 ⟨rfl, hg⟩
      have HG := hide hg
      clear hg
      go_wp2
      go_end0
      exact ⟨rfl, Plays.of_go HB.out (.taken q HK.out q1 q2) HG.out⟩
set_option maxRecDepth 10000 in
set_option maxHeartbeats 1000000 in
theorem play_2 (h : MemAt w B G n m) (hb : ∀ j, (m j).h < 4611686018427387904) (hk : o.kd = 2) :
    Calls Try.prog 10 #[.pointer (some ⟨B, 0, none⟩), .agg o.cells.toArray] w fun e w' => e = .returned (.tuple #[]) ∧ Plays w w' B G n m o := by
  have hO := Ob.new w o
  have hB0 : Below w.heap.size w (w.alloc (.cells o.cells.toArray 34)) := (Below.refl _ _).alloc (Nat.le_refl _) _
  have h1 := h.below hB0
  go_enter Try.func10, Try.ntmps10
  go_upto_region 1 with fail
  generalize w.alloc (.cells o.cells.toArray 34) = w0 at *
  obtain ⟨_, c1, c2, c3, c4, c5⟩ := hO.c
  have r5 := hO.pg
  rw [hk] at c1
  have HK := hide hk
  have HB := hide hB0
  have H1 := hide h1
  clear hO h hk hB0 h1
  rcases on_or_off m n o.fa with hu | ⟨k, hf, hu⟩
  · go_wp2_with fail
    refine (hold_off w0 B G n m o.fa H1.out hu).mono ?_
    rintro e w1 ⟨rfl, rfl⟩
    go_wp2
    go_end0
    exact ⟨rfl, Plays.of_same HB.out H1.out (.same (fun e => by rw [HK.out] at e; exact absurd e (by decide)) (fun e => by rw [HK.out] at e; exact absurd e (by decide)) (fun e => by rw [HK.out] at e; exact absurd e (by decide)))⟩
  · rw [hf] at c2
    have HF := hide hf
    clear hf
    go_wp2_with fail
    refine (hold_on w0 B G n m k H1.out hu (hb k)).mono ?_
    rintro e w1 ⟨rfl, hg⟩
    have HG := hide hg
    clear hg
    go_wp2
    go_end0
    exact ⟨rfl, Plays.of_go HB.out (.held k HK.out HF.out hu) HG.out⟩
set_option maxRecDepth 10000 in
set_option maxHeartbeats 1000000 in
theorem play_3 (h : MemAt w B G n m) (hb : ∀ j, (m j).h < 4611686018427387904) (hk : o.kd = 3) :
    Calls Try.prog 10 #[.pointer (some ⟨B, 0, none⟩), .agg o.cells.toArray] w fun e w' => e = .returned (.tuple #[]) ∧ Plays w w' B G n m o := by
  have hO := Ob.new w o
  have hB0 : Below w.heap.size w (w.alloc (.cells o.cells.toArray 34)) := (Below.refl _ _).alloc (Nat.le_refl _) _
  have h1 := h.below hB0
  go_enter Try.func10, Try.ntmps10
  go_upto_region 1 with fail
  generalize w.alloc (.cells o.cells.toArray 34) = w0 at *
  obtain ⟨_, c1, c2, c3, c4, c5⟩ := hO.c
  have r5 := hO.pg
  rw [hk] at c1
  have HK := hide hk
  have HB := hide hB0
  have H1 := hide h1
  clear hO h hk hB0 h1
  rcases on_or_off m n o.fa with hu | ⟨k, hf, hu⟩
  · go_wp2_with fail
    refine (drop_off w0 B G n m o.fa H1.out hu).mono ?_
    rintro e w1 ⟨rfl, rfl⟩
    go_wp2
    go_end0
    exact ⟨rfl, Plays.of_same HB.out H1.out (.same (fun e => by rw [HK.out] at e; exact absurd e (by decide)) (fun e => by rw [HK.out] at e; exact absurd e (by decide)) (fun e => by rw [HK.out] at e; exact absurd e (by decide)))⟩
  · rw [hf] at c2
    have HF := hide hf
    clear hf
    by_cases g : (m k).h = 1
    · go_wp2_with fail
      refine (drop_last w0 B G n m k H1.out hu g).mono ?_
      rintro e w1 ⟨rfl, hg⟩
      have HG := hide hg
      clear hg
      go_wp2
      go_end0
      exact ⟨rfl, Plays.of_go HB.out (.gone k HK.out HF.out hu) HG.out⟩
    · go_wp2_with fail
      refine (drop_more w0 B G n m k H1.out hu (by have := hu.2; omega) (hb k)).mono ?_
      rintro e w1 ⟨rfl, hg⟩
      have HG := hide hg
      clear hg
      go_wp2
      go_end0
      exact ⟨rfl, Plays.of_go HB.out (.less k HK.out HF.out hu) HG.out⟩
set_option maxRecDepth 10000 in
set_option maxHeartbeats 1000000 in
theorem play_4 (h : MemAt w B G n m) (hk : o.kd = 4) :
    Calls Try.prog 10 #[.pointer (some ⟨B, 0, none⟩), .agg o.cells.toArray] w fun e w' => e = .returned (.tuple #[]) ∧ Plays w w' B G n m o := by
  have hO := Ob.new w o
  have hB0 : Below w.heap.size w (w.alloc (.cells o.cells.toArray 34)) := (Below.refl _ _).alloc (Nat.le_refl _) _
  have h1 := h.below hB0
  go_enter Try.func10, Try.ntmps10
  go_upto_region 1 with fail
  generalize w.alloc (.cells o.cells.toArray 34) = w0 at *
  obtain ⟨_, c1, c2, c3, c4, c5⟩ := hO.c
  have r5 := hO.pg
  rw [hk] at c1
  have HK := hide hk
  have HB := hide hB0
  have H1 := hide h1
  clear hO h hk hB0 h1
  rcases on_or_off m n o.fa with hu | ⟨k, hf, hu⟩
  · go_wp2_with fail
    refine (load_off w0 B G n m o.fa o.na H1.out hu).mono ?_
    rintro e w1 ⟨rfl, rfl⟩
    go_wp2
    go_end0
    exact ⟨rfl, Plays.of_same HB.out H1.out (.same (fun e => by rw [HK.out] at e; exact absurd e (by decide)) (fun e => by rw [HK.out] at e; exact absurd e (by decide)) (fun e => by rw [HK.out] at e; exact absurd e (by decide)))⟩
  · rw [hf] at c2
    have HF := hide hf
    clear hf
    by_cases g : o.na < 0 ∨ 32 ≤ o.na
    · go_wp2_with fail
      refine (load_bad w0 B G n m k o.na H1.out hu g).mono ?_
      rintro e w1 ⟨rfl, rfl⟩
      go_wp2
      go_end0
      exact ⟨rfl, Plays.of_same HB.out H1.out (.same (fun e => by rw [HK.out] at e; exact absurd e (by decide)) (fun e => by rw [HK.out] at e; exact absurd e (by decide)) (fun e => by rw [HK.out] at e; exact absurd e (by decide)))⟩
    · obtain ⟨i, hi⟩ := Int.eq_ofNat_of_zero_le (show 0 ≤ o.na by omega)
      have hi2 : i < 32 := by omega
      rw [hi] at c4
      have HI := hide hi
      clear hi g
      go_wp2_with fail
      refine (load_ok w0 B G n m k i H1.out hu hi2).mono ?_
      rintro e w1 ⟨rfl, rfl⟩
      go_wp2
      go_end0
      exact ⟨rfl, Plays.of_same HB.out H1.out (.same (fun e => by rw [HK.out] at e; exact absurd e (by decide)) (fun e => by rw [HK.out] at e; exact absurd e (by decide)) (fun e => by rw [HK.out] at e; exact absurd e (by decide)))⟩
set_option maxRecDepth 10000 in
set_option maxHeartbeats 1000000 in
theorem play_5 (h : MemAt w B G n m) (hk : o.kd = 5) :
    Calls Try.prog 10 #[.pointer (some ⟨B, 0, none⟩), .agg o.cells.toArray] w fun e w' => e = .returned (.tuple #[]) ∧ Plays w w' B G n m o := by
  have hO := Ob.new w o
  have hB0 : Below w.heap.size w (w.alloc (.cells o.cells.toArray 34)) := (Below.refl _ _).alloc (Nat.le_refl _) _
  have h1 := h.below hB0
  go_enter Try.func10, Try.ntmps10
  go_upto_region 1 with fail
  generalize w.alloc (.cells o.cells.toArray 34) = w0 at *
  obtain ⟨_, c1, c2, c3, c4, c5⟩ := hO.c
  have r5 := hO.pg
  rw [hk] at c1
  have HK := hide hk
  have HB := hide hB0
  have H1 := hide h1
  clear hO h hk hB0 h1
  rcases on_or_off m n o.fa with hu | ⟨k, hf, hu⟩
  · go_wp2_with fail
    refine (store_off w0 B G n m o.fa o.na (o.p 0) H1.out hu).mono ?_
    rintro e w1 ⟨rfl, rfl⟩
    go_wp2
    go_end0
    exact ⟨rfl, Plays.of_same HB.out H1.out (.same (fun _ => .inl hu) (fun e => by rw [HK.out] at e; exact absurd e (by decide)) (fun e => by rw [HK.out] at e; exact absurd e (by decide)))⟩
  · rw [hf] at c2
    have HF := hide hf
    clear hf
    by_cases g : o.na < 0 ∨ 32 ≤ o.na
    · go_wp2_with fail
      refine (store_bad w0 B G n m k o.na (o.p 0) H1.out hu g).mono ?_
      rintro e w1 ⟨rfl, rfl⟩
      go_wp2
      go_end0
      exact ⟨rfl, Plays.of_same HB.out H1.out (.same (fun _ => .inr g) (fun e => by rw [HK.out] at e; exact absurd e (by decide)) (fun e => by rw [HK.out] at e; exact absurd e (by decide)))⟩
    · obtain ⟨i, hi⟩ := Int.eq_ofNat_of_zero_le (show 0 ≤ o.na by omega)
      have hi2 : i < 32 := by omega
      rw [hi] at c4
      have HI := hide hi
      clear hi g
      go_wp2_with fail
      refine (store_ok w0 B G n m k i (o.p 0) H1.out hu hi2).mono ?_
      rintro e w1 ⟨rfl, hg⟩
      have HG := hide hg
      clear hg
      go_wp2
      go_end0
      exact ⟨rfl, Plays.of_go HB.out (.stored k i HK.out HF.out hu hi2 HI.out) HG.out⟩
set_option maxRecDepth 10000 in
set_option maxHeartbeats 1000000 in
theorem play_6 (h : MemAt w B G n m) (hk : o.kd = 6) :
    Calls Try.prog 10 #[.pointer (some ⟨B, 0, none⟩), .agg o.cells.toArray] w fun e w' => e = .returned (.tuple #[]) ∧ Plays w w' B G n m o := by
  have hO := Ob.new w o
  have hB0 : Below w.heap.size w (w.alloc (.cells o.cells.toArray 34)) := (Below.refl _ _).alloc (Nat.le_refl _) _
  have h1 := h.below hB0
  go_enter Try.func10, Try.ntmps10
  go_upto_region 1 with fail
  generalize w.alloc (.cells o.cells.toArray 34) = w0 at *
  obtain ⟨_, c1, c2, c3, c4, c5⟩ := hO.c
  have r5 := hO.pg
  rw [hk] at c1
  have HK := hide hk
  have HB := hide hB0
  have H1 := hide h1
  clear hO h hk hB0 h1
  rcases on_or_off m n o.fa with hu | ⟨k, hf, hu⟩
  · go_wp2_with fail
    refine (page_off w0 B G n m o.fa H1.out hu).mono ?_
    rintro e w1 ⟨rfl, hb1⟩
    have HE := hide hb1
    clear hb1
    go_wp2
    go_end0
    exact ⟨rfl, Plays.of_below HB.out H1.out (.same (fun e => by rw [HK.out] at e; exact absurd e (by decide)) (fun e => by rw [HK.out] at e; exact absurd e (by decide)) (fun e => by rw [HK.out] at e; exact absurd e (by decide))) HE.out⟩
  · rw [hf] at c2
    have HF := hide hf
    clear hf
    go_wp2_with fail
    refine (page_on w0 B G n m k H1.out hu).mono ?_
    rintro e w1 ⟨rfl, hb1⟩
    have HE := hide hb1
    clear hb1
    go_wp2
    go_end0
    exact ⟨rfl, Plays.of_below HB.out H1.out (.same (fun e => by rw [HK.out] at e; exact absurd e (by decide)) (fun e => by rw [HK.out] at e; exact absurd e (by decide)) (fun e => by rw [HK.out] at e; exact absurd e (by decide))) HE.out⟩
set_option maxRecDepth 10000 in
set_option maxHeartbeats 1000000 in
theorem play_7 (h : MemAt w B G n m) (hk : o.kd = 7) :
    Calls Try.prog 10 #[.pointer (some ⟨B, 0, none⟩), .agg o.cells.toArray] w fun e w' => e = .returned (.tuple #[]) ∧ Plays w w' B G n m o := by
  have hO := Ob.new w o
  have hB0 : Below w.heap.size w (w.alloc (.cells o.cells.toArray 34)) := (Below.refl _ _).alloc (Nat.le_refl _) _
  have h1 := h.below hB0
  go_enter Try.func10, Try.ntmps10
  go_upto_region 1 with fail
  generalize w.alloc (.cells o.cells.toArray 34) = w0 at *
  obtain ⟨_, c1, c2, c3, c4, c5⟩ := hO.c
  have r5 := hO.pg
  rw [hk] at c1
  have HK := hide hk
  have HB := hide hB0
  have H1 := hide h1
  clear hO h hk hB0 h1
  rcases on_or_off m n o.fa with hu | ⟨k, hf, hu⟩
  · go_wp2_with (refine load24 rfl _ rfl w.heap.size 5 rfl _ r5 ?_)
    refine (setPage_off w0 B G n m o.fa o.p H1.out hu).mono ?_
    rintro e w1 ⟨rfl, hb1⟩
    have HE := hide hb1
    clear hb1
    go_wp2
    go_end0
    exact ⟨rfl, Plays.of_below HB.out H1.out (.same (fun e => by rw [HK.out] at e; exact absurd e (by decide)) (fun _ => hu) (fun e => by rw [HK.out] at e; exact absurd e (by decide))) HE.out⟩
  · rw [hf] at c2
    have HF := hide hf
    clear hf
    go_wp2_with (refine load24 rfl _ rfl w.heap.size 5 rfl _ r5 ?_)
    refine (setPage_on w0 B G n m k o.p H1.out hu).mono ?_
    rintro e w1 ⟨rfl, hg⟩
    have HG := hide hg
    clear hg
    go_wp2
    go_end0
    exact ⟨rfl, Plays.of_go HB.out (.paged k HK.out HF.out hu) HG.out⟩
set_option maxRecDepth 10000 in
set_option maxHeartbeats 1000000 in
theorem play_8 (h : MemAt w B G n m) (hk : o.kd = 8) :
    Calls Try.prog 10 #[.pointer (some ⟨B, 0, none⟩), .agg o.cells.toArray] w fun e w' => e = .returned (.tuple #[]) ∧ Plays w w' B G n m o := by
  have hO := Ob.new w o
  have hB0 : Below w.heap.size w (w.alloc (.cells o.cells.toArray 34)) := (Below.refl _ _).alloc (Nat.le_refl _) _
  have h1 := h.below hB0
  go_enter Try.func10, Try.ntmps10
  go_upto_region 1 with fail
  generalize w.alloc (.cells o.cells.toArray 34) = w0 at *
  obtain ⟨_, c1, c2, c3, c4, c5⟩ := hO.c
  have r5 := hO.pg
  rw [hk] at c1
  have HK := hide hk
  have HB := hide hB0
  have H1 := hide h1
  clear hO h hk hB0 h1
  by_cases g : Off m n o.fa ∨ Off m n o.ga
  · go_wp2_with fail
    refine (copy_off w0 B G n m o.fa o.ga H1.out g).mono ?_
    rintro e w1 ⟨rfl, rfl⟩
    go_wp2
    go_end0
    exact ⟨rfl, Plays.of_same HB.out H1.out (.same (fun e => by rw [HK.out] at e; exact absurd e (by decide)) (fun e => by rw [HK.out] at e; exact absurd e (by decide)) (fun _ => g))⟩
  · rcases on_or_off m n o.fa with hu | ⟨k, hf, hu⟩
    · exact absurd (.inl hu) g
    rcases on_or_off m n o.ga with hv | ⟨t, hg, hv⟩
    · exact absurd (.inr hv) g
    rw [hf] at c2
    rw [hg] at c3
    have HF := hide hf
    have HH := hide hg
    clear hf hg g
    go_wp2_with fail
    refine (copy_on w0 B G n m k t H1.out hu hv).mono ?_
    rintro e w1 ⟨rfl, hg⟩
    have HG := hide hg
    clear hg
    go_wp2
    go_end0
    exact ⟨rfl, Plays.of_go HB.out (.copied k t HK.out HF.out HH.out hu hv) HG.out⟩
set_option maxRecDepth 10000 in
set_option maxHeartbeats 1000000 in
theorem play_9 (h : MemAt w B G n m) (hk : o.kd = 9) :
    Calls Try.prog 10 #[.pointer (some ⟨B, 0, none⟩), .agg o.cells.toArray] w fun e w' => e = .returned (.tuple #[]) ∧ Plays w w' B G n m o := by
  have hO := Ob.new w o
  have hB0 : Below w.heap.size w (w.alloc (.cells o.cells.toArray 34)) := (Below.refl _ _).alloc (Nat.le_refl _) _
  have h1 := h.below hB0
  go_enter Try.func10, Try.ntmps10
  go_upto_region 1 with fail
  generalize w.alloc (.cells o.cells.toArray 34) = w0 at *
  obtain ⟨_, c1, c2, c3, c4, c5⟩ := hO.c
  have r5 := hO.pg
  rw [hk] at c1
  have HK := hide hk
  have HB := hide hB0
  have H1 := hide h1
  clear hO h hk hB0 h1
  by_cases g : Off m n o.fa ∨ Off m n o.ga
  · go_wp2_with fail
    refine (same_off w0 B G n m o.fa o.ga H1.out g).mono ?_
    rintro e w1 ⟨rfl, rfl⟩
    go_wp2
    go_end0
    exact ⟨rfl, Plays.of_same HB.out H1.out (.same (fun e => by rw [HK.out] at e; exact absurd e (by decide)) (fun e => by rw [HK.out] at e; exact absurd e (by decide)) (fun e => by rw [HK.out] at e; exact absurd e (by decide)))⟩
  · rcases on_or_off m n o.fa with hu | ⟨k, hf, hu⟩
    · exact absurd (.inl hu) g
    rcases on_or_off m n o.ga with hv | ⟨t, hg, hv⟩
    · exact absurd (.inr hv) g
    rw [hf] at c2
    rw [hg] at c3
    have HF := hide hf
    have HH := hide hg
    clear hf hg g
    go_wp2_with fail
    refine (same_on w0 B G n m k t H1.out hu hv).mono ?_
    rintro e w1 ⟨rfl, hb1⟩
    have HE := hide hb1
    clear hb1
    go_wp2
    go_end0
    exact ⟨rfl, Plays.of_below HB.out H1.out (.same (fun e => by rw [HK.out] at e; exact absurd e (by decide)) (fun e => by rw [HK.out] at e; exact absurd e (by decide)) (fun e => by rw [HK.out] at e; exact absurd e (by decide))) HE.out⟩
set_option maxRecDepth 10000 in
set_option maxHeartbeats 1000000 in
theorem play_10 (h : MemAt w B G n m) (hk : o.kd = 10) :
    Calls Try.prog 10 #[.pointer (some ⟨B, 0, none⟩), .agg o.cells.toArray] w fun e w' => e = .returned (.tuple #[]) ∧ Plays w w' B G n m o := by
  have hO := Ob.new w o
  have hB0 : Below w.heap.size w (w.alloc (.cells o.cells.toArray 34)) := (Below.refl _ _).alloc (Nat.le_refl _) _
  have h1 := h.below hB0
  go_enter Try.func10, Try.ntmps10
  go_upto_region 1 with fail
  generalize w.alloc (.cells o.cells.toArray 34) = w0 at *
  obtain ⟨_, c1, c2, c3, c4, c5⟩ := hO.c
  have r5 := hO.pg
  rw [hk] at c1
  have HK := hide hk
  have HB := hide hB0
  have H1 := hide h1
  clear hO h hk hB0 h1
  rcases on_or_off m n o.fa with hu | ⟨k, hf, hu⟩
  · go_wp2_with fail
    refine (clean_off w0 B G n m o.fa o.na H1.out hu).mono ?_
    rintro e w1 ⟨rfl, rfl⟩
    go_wp2
    go_end0
    exact ⟨rfl, Plays.of_same HB.out H1.out (.same (fun e => by rw [HK.out] at e; exact absurd e (by decide)) (fun e => by rw [HK.out] at e; exact absurd e (by decide)) (fun e => by rw [HK.out] at e; exact absurd e (by decide)))⟩
  · rw [hf] at c2
    have HF := hide hf
    clear hf
    by_cases g : o.na < 1 ∨ 4611686018427387903 < o.na
    · go_wp2_with fail
      refine (clean_arg w0 B G n m k o.na H1.out hu g).mono ?_
      rintro e w1 ⟨rfl, rfl⟩
      go_wp2
      go_end0
      exact ⟨rfl, Plays.of_same HB.out H1.out (.same (fun e => by rw [HK.out] at e; exact absurd e (by decide)) (fun e => by rw [HK.out] at e; exact absurd e (by decide)) (fun e => by rw [HK.out] at e; exact absurd e (by decide)))⟩
    · rcases hd : (m k).d with _ | _
      · go_wp2_with fail
        refine (clean_not w0 B G n m k o.na H1.out hu (by omega) (by omega) hd).mono ?_
        rintro e w1 ⟨rfl, rfl⟩
        go_wp2
        go_end0
        exact ⟨rfl, Plays.of_same HB.out H1.out (.same (fun e => by rw [HK.out] at e; exact absurd e (by decide)) (fun e => by rw [HK.out] at e; exact absurd e (by decide)) (fun e => by rw [HK.out] at e; exact absurd e (by decide)))⟩
      · go_wp2_with fail
        refine (clean_yes w0 B G n m k o.na H1.out hu (by omega) (by omega) hd).mono ?_
        rintro e w1 ⟨rfl, hg⟩
        have HG := hide hg
        clear hg
        go_wp2
        go_end0
        exact ⟨rfl, Plays.of_go HB.out (.cleaned k HK.out HF.out hu) HG.out⟩
set_option maxRecDepth 10000 in
set_option maxHeartbeats 1000000 in
theorem play_11 (h : MemAt w B G n m) (hk : o.kd = 11) :
    Calls Try.prog 10 #[.pointer (some ⟨B, 0, none⟩), .agg o.cells.toArray] w fun e w' => e = .returned (.tuple #[]) ∧ Plays w w' B G n m o := by
  have hO := Ob.new w o
  have hB0 : Below w.heap.size w (w.alloc (.cells o.cells.toArray 34)) := (Below.refl _ _).alloc (Nat.le_refl _) _
  have h1 := h.below hB0
  go_enter Try.func10, Try.ntmps10
  go_upto_region 1 with fail
  generalize w.alloc (.cells o.cells.toArray 34) = w0 at *
  obtain ⟨_, c1, c2, c3, c4, c5⟩ := hO.c
  have r5 := hO.pg
  rw [hk] at c1
  have HK := hide hk
  have HB := hide hB0
  have H1 := hide h1
  clear hO h hk hB0 h1
  rcases on_or_off m n o.fa with hu | ⟨k, hf, hu⟩
  · go_wp2_with fail
    refine (info_off w0 B G n m o.fa H1.out hu).mono ?_
    rintro e w1 ⟨rfl, hb1⟩
    have HE := hide hb1
    clear hb1
    go_wp2
    go_end0
    exact ⟨rfl, Plays.of_below HB.out H1.out (.same (fun e => by rw [HK.out] at e; exact absurd e (by decide)) (fun e => by rw [HK.out] at e; exact absurd e (by decide)) (fun e => by rw [HK.out] at e; exact absurd e (by decide))) HE.out⟩
  · rw [hf] at c2
    have HF := hide hf
    clear hf
    go_wp2_with fail
    refine (info_on w0 B G n m k H1.out hu).mono ?_
    rintro e w1 ⟨rfl, hb1⟩
    have HE := hide hb1
    clear hb1
    go_wp2
    go_end0
    exact ⟨rfl, Plays.of_below HB.out H1.out (.same (fun e => by rw [HK.out] at e; exact absurd e (by decide)) (fun e => by rw [HK.out] at e; exact absurd e (by decide)) (fun e => by rw [HK.out] at e; exact absurd e (by decide))) HE.out⟩
end
end Go.Proofs.Ytihkkbbphdgagab
