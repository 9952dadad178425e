import Derived.Test.YtihkkbbphdgagaaH7
import Derived.Deep.Cut
namespace Go.Proofs.Ytihkkbbphdgagaa
open Go.RowKit

/-- 128 bytes -/
def bytes (f : Nat → Nat) : List Value := (List.range 128).map fun i => .int .u8 (f i : Nat)
theorem bytes_len (f : Nat → Nat) : (bytes f).length = 128 := by simp [bytes]
theorem bytes_get (f : Nat → Nat) {i : Nat} (h : i < 128) : (bytes f)[i]? = some (.int .u8 (f i : Nat)) := by simp [bytes, h]
structure Bk (w : World) (N : Nat) (f : Nat → Nat) : Prop where
  out : w.heap[N]? = some (.cells (bytes f).toArray 5 (0, 0))
section
variable {w w' : World} {N : Nat} {f : Nat → Nat}
theorem Bk.cell (h : Bk w N f) {i : Nat} (hi : i < 128) : w.cell? ⟨N, i, none⟩ = some (.int .u8 (f i : Nat)) := by
  rw [cell_of_row _ _ _ _ _ _ h.out]; simpa using bytes_get f hi
theorem Bk.frz (h : Bk w N f) (i : Nat) : w.frozen? ⟨N, i, none⟩ = false := frozen_of_row _ _ _ _ _ h.out
theorem Bk.lt (h : Bk w N f) : N < w.heap.size := (Array.getElem?_eq_some_iff.1 h.out).1
theorem Bk.up (h : Bk w N f) (hb : Below w.heap.size w w') : Bk w' N f := ⟨by rw [hb.block N h.lt]; exact h.out⟩
theorem Bk.other (h : Bk w N f) {a : Addr} (hne : N ≠ a.block) (v : Value) : Bk (w.setCell a v) N f := ⟨by rw [heap_setCell_other _ _ _ _ hne]; exact h.out⟩
theorem bytes_set (f : Nat → Nat) {i : Nat} (hi : i < 128) (v : Nat) : bytes (setW f i v) = (bytes f).set i (.int .u8 (v : Nat)) := by
  apply List.ext_getElem?
  intro j
  by_cases hj : j < 128
  · by_cases e : i = j
    · subst e; rw [List.getElem?_set_self (by rw [bytes_len]; exact hi), bytes_get _ hi]; simp [setW]
    · rw [List.getElem?_set_ne e, bytes_get _ hj, bytes_get _ hj]; simp [setW, Ne.symm e]
  · rw [List.getElem?_eq_none (by rw [bytes_len]; omega), List.getElem?_eq_none (by rw [List.length_set, bytes_len]; omega)]
theorem Bk.set (h : Bk w N f) {i : Nat} (hi : i < 128) (v : Nat) : Bk (w.setCell ⟨N, i, none⟩ (.int .u8 (v : Int))) N (setW f i v) :=
  ⟨by rw [heap_setCell_same w N i _ _ _ h.out, bytes_set f hi v]; simp⟩
theorem Bk.congr (h : Bk w N f) {g : Nat → Nat} (e : ∀ i, i < 128 → f i = g i) : Bk w N g :=
  ⟨by rw [h.out]; congr 3; unfold bytes; apply List.map_congr_left; intro i hi; rw [e i (by simpa using hi)]⟩
theorem Pg.setOther {p : Nat → Nat} (h : Pg w N p) {a : Addr} (hne : N ≠ a.block) (v : Value) : Pg (w.setCell a v) N p := ⟨by rw [heap_setCell_other _ _ _ _ hne]; exact h.out⟩
theorem Pg.set {p : Nat → Nat} (h : Pg w N p) {i : Nat} (hi : i < 32) (v : Nat) : Pg (w.setCell ⟨N, i, none⟩ (.int .u32 (v : Int))) N (setW p i v) :=
  ⟨by rw [heap_setCell_same w N i _ _ _ h.out, page_set p hi v]; simp⟩
end
theorem info5' : ∃ i, Try.prog.info? 5 = some i ∧ i.zero = some (.int .u8 0) ∧ i.size = 1 ∧ i.bytes = 1 := info_parts (by kernel_rfl)
theorem make25 (w : World) : (Instr.makeSlice 25 (.int .i64 128) (.int .i64 128)).run Try.prog w = .ok (.slice (some ⟨w.heap.size, 0, none⟩) 128 128) (w.alloc (.cells (bytes (fun _ => 0)).toArray 5)) := by
  obtain ⟨i, hi, hz, hs, hb⟩ := info5'
  have := run_make (P := Try.prog) w 25 5 i _ Try.underlying25 hi hz .i64 .i64 128 128 (by omega) (Int.le_refl _) (by rw [hb]; omega) (by omega)
  have e : madeCells (Value.int .u8 0).cells (128 * 1) = (bytes (fun _ => 0)).toArray := by
    apply Array.ext_getElem?
    intro j
    unfold madeCells bytes
    by_cases hj : j < 128
    · simp [hj, Value.cells, Nat.mod_one]
    · simp [hj]
  rw [hs] at this
  have e2 : (128 : Int).toNat = 128 := rfl
  rw [e2, e] at this
  exact this
/-- byte i of a page -/
def pb (p : Nat → Nat) (i : Nat) : Nat := p (i / 4) / 2 ^ (i % 4 * 8) % 256
set_option maxHeartbeats 400000 in
theorem shift_any (w : World) (k : Nat) (hk : k < 128) :
    Calls Try.prog 29 #[.int .i64 (k : Int)] w fun e w' => e = .returned (.int .i64 ((k % 4 * 8 : Nat) : Int)) ∧ w' = w := by
  go_enter Try.func29, Try.ntmps29
  go_wp2
  go_ret
  refine ⟨?_, rfl⟩
  simp
set_option maxRecDepth 100000 in
set_option maxHeartbeats 1000000 in
theorem pack_any (p : Nat → Nat) (hp : ∀ i, i < 32 → p i < 4294967296) (w : World) :
    Calls Try.prog 9 #[.agg (page p).toArray] w fun e w' => ∃ N, e = .returned (.slice (some ⟨N, 0, none⟩) 128 128) ∧ Bk w' N (pb p) ∧ w.heap.size ≤ N ∧ Below w.heap.size w w' := by
  have hp0 : Pg (w.alloc (.cells (page p).toArray 24)) w.heap.size p := ⟨heap_alloc_last _ _⟩
  have hb0 : Below w.heap.size w (w.alloc (.cells (page p).toArray 24)) := (Below.refl _ _).alloc (Nat.le_refl _) _
  have hmk := make25
  go_enter Try.func9, Try.ntmps9
  go_upto_region 1 with fail
  generalize w.alloc (.cells (page p).toArray 24) = w0 at *
  have hB1 : Bk (w0.alloc (.cells (bytes (fun _ => 0)).toArray 5)) w0.heap.size (fun _ => 0) := ⟨heap_alloc_last _ _⟩
  have hal : Below w0.heap.size w0 (w0.alloc (.cells (bytes (fun _ => 0)).toArray 5)) := (Below.refl _ _).alloc (Nat.le_refl _) _
  have hp1 := hp0.up hal
  have hne : w.heap.size ≠ w0.heap.size := by have := hp0.lt; omega
  have hle : w.heap.size ≤ w0.heap.size := hb0.size
  have H1 := hide (And.intro hB1 (And.intro hp1 (hb0.trans (hal.mono hb0.size))))
  clear hp0 hb0 hB1 hal hp1
  go_upto_region 2 with fail
  generalize w0.alloc (.cells (bytes (fun _ => 0)).toArray 5) = w1 at *
  obtain ⟨N, hN⟩ : ∃ N, w0.heap.size = N := ⟨_, rfl⟩
  rw [hN] at H1 hne hle ⊢
  clear hN hmk
  go_wp2
  go_loopw [8, 4] (fun i _ wr => ∃ k : Nat, k ≤ 128 ∧ i = .int .i64 (k : Int) ∧ Bk wr N (fun j => if j < k then pb p j else 0) ∧ Pg wr w.heap.size p ∧ Below w.heap.size w wr) (fun i _ _ => 128 - (intOf i).toNat)
  case atStart => exact ⟨0, by omega, rfl, by simpa using H1.out.1, H1.out.2.1, H1.out.2.2⟩
  case round =>
    clear H1
    obtain ⟨k, hk, rfl, hB, hP, hb⟩ := hrel
    by_cases hlt : k < 128
    · have hd : decide ((k : Int) < 128) = true := by simp; omega
      have c1 := hB.cell hlt
      have f1 := hB.frz k
      have c2 := hP.cell (i := k / 4) (by omega)
      have hpk := hp (k / 4) (by omega)
      have hS := fun W => shift_any W k hlt
      obtain ⟨q, hq⟩ : ∃ q, k / 4 = q := ⟨_, rfl⟩
      have hqi : (k : Int) / 4 = (q : Int) := by omega
      have hql : q < 32 := by omega
      have hwr : IntKind.i64.wrap (q : Int) = (q : Int) := by rw [IntKind.wrap_i64]; omega
      have hpb : pb p k = p q / 2 ^ (k % 4 * 8) % 256 := by unfold pb; rw [hq]
      rw [hq] at c2 hpk
      obtain ⟨sh, hsh⟩ : ∃ sh, k % 4 * 8 = sh := ⟨_, rfl⟩
      have hshl : sh < 32 := by omega
      rw [hsh] at hpb hS
      have hfar : ∀ v, (wr.setCell ⟨N, k, none⟩ v).cell? ⟨w.heap.size, q, none⟩ = some (.int .u32 (p q : Nat)) := fun v => by rw [World.cell?_setCell_far _ _ _ _ (by simpa using hne.symm)]; exact c2
      have HX : Hid (∀ z : Int, z = ((pb p k : Nat) : Int) → Bk (wr.setCell ⟨N, k, none⟩ (.int .u8 z)).drew N (fun j => if j < k + 1 then pb p j else 0) ∧ Pg (wr.setCell ⟨N, k, none⟩ (.int .u8 z)).drew w.heap.size p ∧ Below w.heap.size w (wr.setCell ⟨N, k, none⟩ (.int .u8 z)).drew) := by
        refine hide (fun z hz => ?_)
        subst hz
        refine ⟨⟨((hB.set hlt (pb p k)).congr (fun i _ => ?_)).out⟩, ⟨(hP.setOther hne _).out⟩, (hb.setCell hle _).drew⟩
        unfold setW; split
        · rename_i e; subst e; simp
        · rename_i e
          by_cases h2 : i < k
          · simp [h2, Nat.lt_succ_of_lt h2]
          · simp [h2, show ¬ i < k + 1 by omega]
      have HPB := hide hpb
      clear hB hP hb hpb hsh hq
      go_wp2
      go_region_held (fun W => W.cell? ⟨w.heap.size, q, none⟩ = some (.int .u32 (p q : Nat)))
        (first | exact c2 | exact hfar _)
        ((refine (hS _).mono ?_; rintro e w2 ⟨rfl, rfl⟩))
      rename_i hHeld
      clear hHeld hfar c2 c1 f1
      go_wp2
      go_roundw
      case rel => exact ⟨k + 1, by omega, by go_num, HX.out _ (by rw [HPB.out]; simp)⟩
      case measure => simp [intOf]; omega
      case roundEnd => exact ⟨⟨k + 1, by omega, by go_num, HX.out _ (by rw [HPB.out]; simp)⟩, by simp [intOf]; omega⟩
    · have hd : decide ((k : Int) < 128) = false := by simp; omega
      have hB' : Bk wr N (pb p) := hB.congr (fun i hi => by rw [if_pos (by omega)])
      have HX := hide (And.intro hB' (And.intro hle hb))
      clear hB hP hb hB'
      go_wp2
      go_ret
      exact ⟨N, rfl, HX.out⟩
end Go.Proofs.Ytihkkbbphdgagaa
