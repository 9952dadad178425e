import Derived.Test.YtionncfpcbjchaaDoorF5
namespace Go.Proofs.YtionncfpcbjchaaDoor
open Go.RowKit
/-- 128 bytes -/
def bytes (f : Nat → Nat) : List Value := (List.range 128).map fun i => .int .u8 (f i : Nat)
theorem bytes_len (f : Nat → Nat) : (bytes f).length = 128 := by simp [bytes]
theorem bytes_get (f : Nat → Nat) {i : Nat} (h : i < 128) : (bytes f)[i]? = some (.int .u8 (f i : Nat)) := by simp [bytes, h]
def setW (f : Nat → Nat) (i v : Nat) : Nat → Nat := fun j => if j = i then v else f j
structure Bk (w : World) (N : Nat) (f : Nat → Nat) : Prop where
  out : w.heap[N]? = some (.cells (bytes f).toArray 5 (0, 0))
section
variable {w w' : World} {N : Nat} {f : Nat → Nat}
theorem Bk.cell (h : Bk w N f) {i : Nat} (hi : i < 128) : w.cell? ⟨N, i, none⟩ = some (.int .u8 (f i : Nat)) := by
  rw [cell_of_row _ _ _ _ _ _ h.out]; simpa using bytes_get f hi
theorem Bk.frz (h : Bk w N f) (i : Nat) : w.frozen? ⟨N, i, none⟩ = false := frozen_of_row _ _ _ _ _ h.out
theorem Bk.lt (h : Bk w N f) : N < w.heap.size := (Array.getElem?_eq_some_iff.1 h.out).1
theorem bytes_set (f : Nat → Nat) {i : Nat} (hi : i < 128) (v : Nat) : bytes (setW f i v) = (bytes f).set i (.int .u8 (v : Nat)) := by
  apply List.ext_getElem?
  intro j
  by_cases hj : j < 128
  · by_cases e : i = j
    · subst e; rw [List.getElem?_set_self (by rw [bytes_len]; exact hi), bytes_get _ hi]; simp [setW]
    · rw [List.getElem?_set_ne e, bytes_get _ hj, bytes_get _ hj]; simp [setW, Ne.symm e]
  · rw [List.getElem?_eq_none (by rw [bytes_len]; omega), List.getElem?_eq_none (by rw [List.length_set, bytes_len]; omega)]
theorem Bk.set (h : Bk w N f) {i : Nat} (hi : i < 128) (v : Nat) : Bk (w.setCell ⟨N, i, none⟩ (.int .u8 (v : Int))) N (setW f i v) :=
  ⟨by rw [heap_setCell_same w N i _ _ _ h.out, bytes_set f hi v]; simp⟩
theorem Bk.congr (h : Bk w N f) {g : Nat → Nat} (e : ∀ i, i < 128 → f i = g i) : Bk w N g :=
  ⟨by rw [h.out]; congr 3; unfold bytes; apply List.map_congr_left; intro i hi; rw [e i (by simpa using hi)]⟩
end
theorem makeB (w : World) : (Instr.makeSlice 50 (.int .i64 128) (.int .i64 128)).run Tryd.prog w = .ok (.slice (some ⟨w.heap.size, 0, none⟩) 128 128) (w.alloc (.cells (bytes (fun _ => 0)).toArray 5)) := by
  obtain ⟨i, hi, hz, hs, hb⟩ := info_b
  have := run_make (P := Tryd.prog) w 50 5 i _ Tryd.underlying50 hi hz .i64 .i64 128 128 (by omega) (Int.le_refl _) (by rw [hb]; omega) (by omega)
  have e : madeCells (Value.int .u8 0).cells (128 * 1) = (bytes (fun _ => 0)).toArray := by
    apply Array.ext_getElem?
    intro j
    unfold madeCells bytes
    by_cases hj : j < 128
    · simp [hj, Value.cells, Nat.mod_one]
    · simp [hj]
  rw [hs] at this
  have e2 : (128 : Int).toNat = 128 := rfl
  rw [e2, e] at this
  exact this
/-- a page's words as cells -/
def pgL (W : List Nat) : List Value := W.map (fun n : Nat => Value.int .u32 ((n : Nat) : Int))
theorem pgL_get {W : List Nat} {i z : Nat} (h : W[i]? = some z) : (pgL W)[i]? = some (.int .u32 (z : Nat)) := by simp [pgL, h]
theorem info_pg : (Tryd.prog.info? 47).map (·.size) = some 32 := by kernel_rfl
/-- byte i of a page -/
def pb (W : List Nat) (i : Nat) : Nat := W.getD (i / 4) 0 / 2 ^ (i % 4 * 8) % 256
/-- a page's bytes -/
def bys (W : List Nat) : Tx := (List.range 128).map fun i => UInt8.ofNat (pb W i)
theorem bys_len (W : List Nat) : (bys W).length = 128 := by simp [bys]
theorem Bk.bys {w : World} {N : Nat} {W : List Nat} (h : Bk w N (pb W)) : ∀ (i : Nat) (u : UInt8), (bys W)[i]? = some u → w.cell? ⟨N, i, none⟩ = some (By u) := fun i u hu => by
  have hi : i < 128 := by rw [← bys_len W]; exact (List.getElem?_eq_some_iff.1 hu).1
  rw [h.cell hi]
  simp [Go.Proofs.YtionncfpcbjchaaDoor.bys, hi] at hu
  subst hu
  have : pb W i < 256 := Nat.mod_lt _ (by decide)
  simp [By]
  omega
set_option maxHeartbeats 400000 in
theorem shift_any (w : World) (k : Nat) (hk : k < 128) :
    Calls Tryd.prog 31 #[.int .i64 (k : Int)] w fun e w' => e = .returned (.int .i64 ((k % 4 * 8 : Nat) : Int)) ∧ w' = w := by
  go_enter Tryd.func31, Tryd.ntmps31
  go_wp2
  go_ret
  refine ⟨?_, rfl⟩
  simp
set_option maxRecDepth 100000 in
set_option maxHeartbeats 2000000 in
theorem pack_any (W : List Nat) (hn : W.length = 32) (hp : ∀ n ∈ W, n < 4294967296) (w : World) :
    Calls Tryd.prog 29 #[.agg (pgL W).toArray] w fun e w' => ∃ N, e = .returned (.slice (some ⟨N, 0, none⟩) 128 128) ∧ Bk w' N (pb W) ∧ Below w.heap.size w w' := by
  have hb0 : Below w.heap.size w (w.alloc (.cells (pgL W).toArray 47)) := (Below.refl _ _).alloc (Nat.le_refl _) _
  have hp0 : (w.alloc (.cells (pgL W).toArray 47)).heap[w.heap.size]? = some (.cells (pgL W).toArray 47 (0, 0)) := heap_alloc_last _ _
  have hmk := makeB
  go_enter Tryd.func29, Tryd.ntmps29
  go_upto_region 1 with fail
  generalize w.alloc (.cells (pgL W).toArray 47) = w0 at *
  have hB1 : Bk (w0.alloc (.cells (bytes (fun _ => 0)).toArray 5)) w0.heap.size (fun _ => 0) := ⟨heap_alloc_last _ _⟩
  have hal : Below w0.heap.size w0 (w0.alloc (.cells (bytes (fun _ => 0)).toArray 5)) := (Below.refl _ _).alloc (Nat.le_refl _) _
  have hlt0 : w.heap.size < w0.heap.size := (Array.getElem?_eq_some_iff.1 hp0).1
  have H1 := hide (And.intro hB1 (And.intro ((hal.block _ hlt0).trans hp0) (hb0.trans (hal.mono hb0.size))))
  clear hp0 hb0 hB1 hal
  go_upto_region 2 with fail
  generalize w0.alloc (.cells (bytes (fun _ => 0)).toArray 5) = w1 at *
  obtain ⟨N, hN⟩ : ∃ N, w0.heap.size = N := ⟨_, rfl⟩
  rw [hN] at H1 hlt0 ⊢
  clear hN hmk
  go_wp2
  go_loopw [8, 4] (fun i _ wr => ∃ k : Nat, k ≤ 128 ∧ i = .int .i64 (k : Int) ∧ Bk wr N (fun j => if j < k then pb W j else 0) ∧ wr.heap[w.heap.size]? = some (.cells (pgL W).toArray 47 (0, 0)) ∧ Below w.heap.size w wr) (fun i _ _ => 128 - (intOf i).toNat)
  case atStart => exact ⟨0, by omega, rfl, by simpa using H1.out.1, H1.out.2.1, H1.out.2.2⟩
  case round =>
    clear H1
    obtain ⟨k, hk, rfl, hB, hP, hb⟩ := hrel
    by_cases hlt : k < 128
    · have hd : decide ((k : Int) < 128) = true := by simp; omega
      have c1 := hB.cell hlt
      have f1 := hB.frz k
      obtain ⟨q, hq⟩ : ∃ q, k / 4 = q := ⟨_, rfl⟩
      have hql : q < 32 := by omega
      obtain ⟨z, hz⟩ : ∃ z, W[q]? = some z := ⟨W[q], by simp⟩
      have c2 : wr.cell? ⟨w.heap.size, q, none⟩ = some (.int .u32 (z : Nat)) := by
        rw [cell_of_row _ _ _ _ _ _ hP]; simpa using pgL_get hz
      have hpk := hp z (List.mem_of_getElem? hz)
      have hS := fun W => shift_any W k hlt
      have hqi : (k : Int) / 4 = (q : Int) := by omega
      have hwr : IntKind.i64.wrap (q : Int) = (q : Int) := by rw [IntKind.wrap_i64]; omega
      have hpb : pb W k = z / 2 ^ (k % 4 * 8) % 256 := by unfold pb; rw [hq]; simp [hz]
      obtain ⟨sh, hsh⟩ : ∃ sh, k % 4 * 8 = sh := ⟨_, rfl⟩
      have hshl : sh < 32 := by omega
      rw [hsh] at hpb hS
      have hne : w.heap.size ≠ N := by omega
      have hfar : ∀ v, (wr.setCell ⟨N, k, none⟩ v).cell? ⟨w.heap.size, q, none⟩ = some (.int .u32 (z : Nat)) := fun v => by rw [World.cell?_setCell_far _ _ _ _ (by simpa using hne.symm)]; exact c2
      have HX : Hid (∀ y : Int, y = ((pb W k : Nat) : Int) → Bk (wr.setCell ⟨N, k, none⟩ (.int .u8 y)).drew N (fun j => if j < k + 1 then pb W j else 0) ∧ (wr.setCell ⟨N, k, none⟩ (.int .u8 y)).drew.heap[w.heap.size]? = some (.cells (pgL W).toArray 47 (0, 0)) ∧ Below w.heap.size w (wr.setCell ⟨N, k, none⟩ (.int .u8 y)).drew) := by
        refine hide (fun y hy => ?_)
        subst hy
        refine ⟨⟨((hB.set hlt (pb W k)).congr (fun i _ => ?_)).out⟩, (heap_setCell_other _ _ _ _ hne).trans hP, (hb.setCell (p := ⟨N, k, none⟩) (by show w.heap.size ≤ N; omega) _).drew⟩
        unfold setW; split
        · rename_i e; subst e; simp
        · rename_i e
          by_cases h2 : i < k
          · simp [h2, Nat.lt_succ_of_lt h2]
          · simp [h2, show ¬ i < k + 1 by omega]
      have HPB := hide hpb
      clear hB hP hb hpb hsh hq hz
      go_wp2
      go_region_held (fun W => W.cell? ⟨w.heap.size, q, none⟩ = some (.int .u32 (z : Nat)))
        (first | exact c2 | exact hfar _)
        ((refine (hS _).mono ?_; rintro e w2 ⟨rfl, rfl⟩))
      rename_i hHeld
      clear hHeld hfar c2 c1 f1
      go_wp2
      go_roundw
      case rel => exact ⟨k + 1, by omega, by go_num, HX.out _ (by rw [HPB.out]; simp)⟩
      case measure => simp [intOf]; omega
      case roundEnd => exact ⟨⟨k + 1, by omega, by go_num, HX.out _ (by rw [HPB.out]; simp)⟩, by simp [intOf]; omega⟩
    · have hd : decide ((k : Int) < 128) = false := by simp; omega
      have hB' : Bk wr N (pb W) := hB.congr (fun i hi => by rw [if_pos (by omega)])
      have HX := hide (And.intro hB' hb)
      clear hB hP hb hB'
      go_wp2
      go_ret
      exact ⟨N, rfl, HX.out⟩
set_option maxRecDepth 100000 in
set_option maxHeartbeats 2000000 in
theorem pageHex_any (W : List Nat) (hn : W.length = 32) (hp : ∀ n ∈ W, n < 4294967296) (w : World) :
    Calls Tryd.prog 23 #[.agg (pgL W).toArray] w fun e w' => e = .returned (.string ⟨(hx (bys W)).toArray⟩) ∧ Below w.heap.size w w' := by
  have hb0 : Below w.heap.size w (w.alloc (.cells (pgL W).toArray 47)) := (Below.refl _ _).alloc (Nat.le_refl _) _
  have hp0 : (w.alloc (.cells (pgL W).toArray 47)).heap[w.heap.size]? = some (.cells (pgL W).toArray 47 (0, 0)) := heap_alloc_last _ _
  have hK := pack_any W hn hp (w.alloc (.cells (pgL W).toArray 47))
  have hL : (pgL W).length = 32 := by simp [pgL, hn]
  have hcs : ∀ (j : Nat) (v : Value), (pgL W)[j]? = some v → (w.alloc (.cells (pgL W).toArray 47)).cell? ((⟨w.heap.size, 0, none⟩ : Addr).add j) = some v := fun j v hv => by
    rw [add0, cell_of_row _ _ _ _ _ _ hp0]; simpa using hv
  have HB0 := hide hb0
  clear hb0 hp0
  go_enter Tryd.func23, Tryd.ntmps23
  go_wp2_with (refine loadT Tryd.underlying47 rfl (pgL W) (by rw [hL]; exact info_pg) (by rfl) _ rfl ⟨w.heap.size, 0, none⟩ rfl hcs ?_)
  refine hK.mono ?_
  rintro e w1 ⟨N, rfl, hB, hb1⟩
  have HB1 := hide (HB0.out.trans (hb1.mono HB0.out.size))
  have hH := hex_any w1 N 128 128 (bys W) (bys_len W) (Nat.le_refl _) hB.bys (by rw [bys_len]; omega)
  clear hK hB hb1 hcs
  go_wp2_with fail
  refine hH.mono ?_
  rintro e w2 ⟨rfl, hb2⟩
  have HB2 := hide (HB1.out.trans (hb2.mono HB1.out.size))
  clear hb2 hH
  go_wp2
  go_ret
  exact ⟨rfl, HB2.out⟩
theorem wu8 (n : Nat) : IntKind.u8.wrap (n : Int) = ((n % 256 : Nat) : Int) := by rw [IntKind.wrap_u8]; omega
theorem bys_step {W : List Nat} (hn : W.length = 32) {k z : Nat} (hz : W[k]? = some z) : (bys W).take (4 * k) ++ [UInt8.ofNat (z % 256), UInt8.ofNat (z / 256 % 256), UInt8.ofNat (z / 65536 % 256), UInt8.ofNat (z / 16777216 % 256)] = (bys W).take (4 * (k + 1)) := by
  have hk : k < 32 := by rw [← hn]; exact (List.getElem?_eq_some_iff.1 hz).1
  have g : ∀ j, j < 4 → (bys W)[4 * k + j]? = some (UInt8.ofNat (z / 2 ^ (j * 8) % 256)) := fun j hj => by
    have e1 : (4 * k + j) / 4 = k := by omega
    have e2 : (4 * k + j) % 4 = j := by omega
    simp only [bys, pb]
    rw [List.getElem?_map, List.getElem?_range (by omega)]
    simp [e1, e2, hz]
  rw [show 4 * (k + 1) = 4 * k + 1 + 1 + 1 + 1 by omega, List.take_add_one, List.take_add_one, List.take_add_one, List.take_add_one]
  have g0 := g 0 (by omega); have g1 := g 1 (by omega); have g2 := g 2 (by omega); have g3 := g 3 (by omega)
  rw [Nat.add_zero] at g0
  rw [g0, g1, show 4 * k + 1 + 1 = 4 * k + 2 by omega, g2, show 4 * k + 2 + 1 = 4 * k + 3 by omega, g3]
  simp
end Go.Proofs.YtionncfpcbjchaaDoor
