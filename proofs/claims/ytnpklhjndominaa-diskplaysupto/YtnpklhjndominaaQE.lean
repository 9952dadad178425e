import Derived.Test.YtnpklhjndominaaQD
namespace Go.Proofs.Ytnpklhjndominaa
open Go.RowKit

/-- a step of the law in a block of its own -/
def BoxA (G : Nat) (o : Opr) : Asn := fun W H => W.heap[G]? = some (.cells #[.int .i64 o.kind, .bool o.two, .int .i64 o.sec, .int .i64 o.at', o.data, .bool o.fill, o.keep] 30 (0, 0)) ∧ ∀ b, H b ↔ b = G
theorem good_box (G : Nat) (o : Opr) : Good (BoxA G o) := by
  refine ⟨?_, ?_⟩
  · rintro W H ⟨h1, h2⟩ b hb
    rw [(h2 b).1 hb]; exact (Array.getElem?_eq_some_iff.1 h1).1
  · rintro W W' H ⟨h1, h2⟩ hs hk
    exact ⟨by rw [hk G ((h2 G).2 rfl)]; exact h1, h2⟩
abbrev opv (o : Opr) : Value := .agg #[.int .i64 o.kind, .bool o.two, .int .i64 o.sec, .int .i64 o.at', o.data, .bool o.fill, o.keep]
structure Cells7 (W : World) (G : Nat) (o : Opr) : Prop where
  c0 : W.cell? ⟨G, 0, none⟩ = some (.int .i64 o.kind)
  c1 : W.cell? ⟨G, 1, none⟩ = some (.bool o.two)
  c2 : W.cell? ⟨G, 2, none⟩ = some (.int .i64 o.sec)
  c3 : W.cell? ⟨G, 3, none⟩ = some (.int .i64 o.at')
  c4 : W.cell? ⟨G, 4, none⟩ = some o.data
  c5 : W.cell? ⟨G, 5, none⟩ = some (.bool o.fill)
  c6 : W.cell? ⟨G, 6, none⟩ = some o.keep
theorem BoxA.cells {G : Nat} {o : Opr} {W : World} {H : Nat → Prop} (h : BoxA G o W H) : Cells7 W G o :=
  ⟨by rw [cell_of_row _ _ _ _ _ _ h.1]; rfl, by rw [cell_of_row _ _ _ _ _ _ h.1]; rfl, by rw [cell_of_row _ _ _ _ _ _ h.1]; rfl, by rw [cell_of_row _ _ _ _ _ _ h.1]; rfl, by rw [cell_of_row _ _ _ _ _ _ h.1]; rfl, by rw [cell_of_row _ _ _ _ _ _ h.1]; rfl, by rw [cell_of_row _ _ _ _ _ _ h.1]; rfl⟩
section
variable {w wr : World} {X R : Asn}
theorem Sys.box (h : Sys w wr R) (hR : Good R) (o : Opr) : Sys w (wr.alloc (.cells #[.int .i64 o.kind, .bool o.two, .int .i64 o.sec, .int .i64 o.at', o.data, .bool o.fill, o.keep] 30)) (star (BoxA wr.heap.size o) R) :=
  h.new hR (Fc := fun b => b = wr.heap.size) ⟨heap_alloc_last _ _, fun _ => Iff.rfl⟩ (fun b e => by rw [e]; exact Nat.le_refl _) ((Below.refl _ _).alloc (Nat.le_refl _) _)
theorem Sys.head (h : Sys w wr (star X R)) : ∃ F, X wr F := by
  obtain ⟨H, ⟨H1, H2, a1, _⟩, _⟩ := h; exact ⟨H1, a1⟩
theorem Sys.swap {Y : Asn} (h : Sys w wr (star X (star Y R))) : Sys w wr (star Y (star X R)) := h.mono (fun _ _ => star_swap)
theorem Sys.swap2 {Y Z : Asn} (h : Sys w wr (star X (star Y (star Z R)))) : Sys w wr (star X (star Z (star Y R))) := h.mono (fun _ _ => star_mono (fun _ _ => star_swap))
theorem Sys.cells {G : Nat} {o : Opr} (h : Sys w wr (star (BoxA G o) R)) : Cells7 wr G o := by obtain ⟨F, h1⟩ := h.head; exact h1.cells
end
/-- what came in with a step, in the world at the law's beginning -/
structure OpIn (w : World) (o : Opr) : Prop where
  rd : Rd w o.data o.zs
  by8 : ∀ z ∈ o.zs, z < 256
  rb : RdB w o.keep o.ks
  zl : o.zs.length ≤ 1048576
  kl : o.ks.length ≤ 1048576
  s1 : -9223372036854775808 ≤ o.sec ∧ o.sec ≤ 9223372036854775807
  a1 : -9223372036854775808 ≤ o.at' ∧ o.at' ≤ 9223372036854775807
  ft : ∀ (y : Addr) (n c : Nat), o.data = .slice (some y) n c → n ≤ c
theorem Sys.rd {w wr : World} {A : Asn} (h : Sys w wr A) {v : Value} {zs : List Nat} (hv : Rd w v zs) : Rd wr v zs := hv.below h.bel (Nat.le_refl _)
theorem Sys.rb {w wr : World} {A : Asn} (h : Sys w wr A) {v : Value} {zs : List Bool} (hv : RdB w v zs) : RdB wr v zs := hv.below h.bel (Nat.le_refl _)
/-- two lists of numbers that are the same -/
def RdI (w : World) (v : Value) (l : List Nat) : Prop := ∃ (ao : Option Addr) (cap : Nat), v = .slice ao l.length cap ∧ ∀ (k x : Nat), l[k]? = some x → ∃ g, ao = some ⟨g, 0, none⟩ ∧ w.cell? ⟨g, k, none⟩ = some (.int .i64 (x : Int))
theorem OwI.rdi {w : World} {base : Nat} {v : Value} {l : List Nat} (h : OwI w base v l) : RdI w v l := h.read
set_option maxHeartbeats 1600000 in
theorem sameInts_eq (a b : Value) (l : List Nat) (w : World) (ha : RdI w a l) (hb : RdI w b l) (hl : l.length ≤ 4000000) : Calls Try.prog 42 #[a, b] w fun e w' => e = .returned (.bool true) ∧ Below w.heap.size w w' := by
  obtain ⟨a1, c1, rfl, h1⟩ := ha
  obtain ⟨a2, c2, rfl, h2⟩ := hb
  have H1 := hide h1
  have H2 := hide h2
  obtain ⟨L, hL⟩ : ∃ L, l.length = L := ⟨_, rfl⟩
  have HL := hide hL
  simp only [hL] at hl ⊢
  clear h1 h2 hL
  go_enter Try.func42, Try.ntmps42
  go_wp2
  go_loopw [5] (fun x wr => ∃ k : Nat, k ≤ L ∧ x = .int .i64 (k : Int) ∧ Hid (Below w.heap.size w wr)) (fun x _ => L - (intOf x).toNat)
  case atStart => exact ⟨0, by omega, rfl, Below.refl _ _⟩
  case round =>
  obtain ⟨k, hk, rfl, HW⟩ := hrel
  by_cases hlt : k < L
  · have hd : decide ((k : Int) < (L : Int)) = true := by simp; omega
    have hki : (k : Int) < (L : Int) := by omega
    obtain ⟨x, hx⟩ : ∃ x, l[k]? = some x := ⟨_, List.getElem?_eq_getElem (by rw [HL.out]; exact hlt)⟩
    obtain ⟨g1, rfl, e1⟩ := H1.out k x hx
    obtain ⟨g2, rfl, e2⟩ := H2.out k x hx
    have e1' := cell_belowN HW.out e1
    have e2' := cell_belowN HW.out e2
    clear hx e1 e2 H1 H2
    go_wp2
    go_region
    go_wp2
    go_roundw
    case rel => exact ⟨k + 1, by omega, by go_num, HW.out.drew⟩
    case measure => simp [intOf]; omega
  · obtain rfl : k = L := by omega
    have hd : decide ((k : Int) < (k : Int)) = false := by simp
    go_wp2
    go_ret
    exact ⟨rfl, HW.out⟩
/-- the medium as one list -/
def flt (M : Nat → List Nat) : Nat → List Nat
  | 0 => []
  | k + 1 => flt M k ++ M k
theorem flt_len {M : Nat → List Nat} {k : Nat} (h : ∀ s, s < k → (M s).length = 128) : (flt M k).length = k * 128 := by
  induction k with
  | zero => rfl
  | succ k ih => rw [flt, List.length_append, ih (fun s hs => h s (by omega)), h k (by omega)]; omega
theorem flt_get {M : Nat → List Nat} {k s j : Nat} (h : ∀ s, s < k → (M s).length = 128) (hs : s < k) (hj : j < 128) : (flt M k)[s * 128 + j]? = (M s)[j]? := by
  induction k with
  | zero => omega
  | succ k ih =>
    have hl := flt_len (M := M) (k := k) (fun s hs => h s (by omega))
    rw [flt]
    by_cases he : s < k
    · rw [List.getElem?_append_left (by omega)]; exact ih (fun s hs => h s (by omega)) he
    · obtain rfl : s = k := by omega
      rw [List.getElem?_append_right (by omega), hl]; congr 1; omega
theorem flt_lt {M : Nat → List Nat} {k : Nat} (h : ∀ s, s < k → Sec (M s)) : ∀ z ∈ flt M k, z < 256 := by
  induction k with
  | zero => intro z hz; simp [flt] at hz
  | succ k ih =>
    intro z hz
    rw [flt] at hz
    rcases List.mem_append.1 hz with h1 | h1
    · exact ih (fun s hs => h s (by omega)) z h1
    · exact (h k (by omega)).2 z h1
theorem mrow_flt {M : Nat → List Nat} {cur : List Value} (h : MRow M 1024 cur) (hM : ∀ s, s < 1024 → Sec (M s)) : cur = (flt M 1024).map By := by
  have hl := flt_len (M := M) (k := 1024) (fun s hs => (hM s hs).1)
  apply List.ext_getElem?
  intro i
  by_cases hi : i < 131072
  · have hs : i / 128 < 1024 := by omega
    have hj : i % 128 < 128 := by omega
    have e : i / 128 * 128 + i % 128 = i := by omega
    have hv : ((M (i / 128)).map By)[i % 128]? = some (By ((M (i / 128))[i % 128]'(by rw [(hM _ hs).1]; exact hj))) := by
      rw [List.getElem?_map, List.getElem?_eq_getElem (by rw [(hM _ hs).1]; exact hj)]; rfl
    have h1 := h.at' _ hs _ _ hv
    rw [e] at h1
    rw [h1, ← hv, List.getElem?_map, List.getElem?_map, ← flt_get (fun s hs => (hM s hs).1) hs hj, e]
  · rw [List.getElem?_eq_none (by rw [h.len]; omega), List.getElem?_eq_none (by rw [List.length_map, hl]; omega)]
theorem ow_flt {w : World} {base : Nat} {r : Value} {cur : List Value} {M : Nat → List Nat} (ho : w.ownsRow base 5 1 r 131072 cur) (h : MRow M 1024 cur) (hM : ∀ s, s < 1024 → Sec (M s)) : Ow w base r (flt M 1024) := by
  unfold Ow
  rw [flt_len (fun s hs => (hM s hs).1), ← mrow_flt h hM]; exact ho
/-- bytes as sectors -/
def sct (zs : List Nat) (s : Nat) : List Nat := (zs.drop (s * 128)).take 128
theorem sct_sec {zs : List Nat} (hl : zs.length = 131072) (hz : ∀ z ∈ zs, z < 256) (s : Nat) (hs : s < 1024) : Sec (sct zs s) :=
  ⟨by simp [sct]; omega, fun z h => hz z (List.mem_of_mem_drop (List.mem_of_mem_take h))⟩
theorem sct_get {zs : List Nat} {s j : Nat} {v : Value} (h : ((sct zs s).map By)[j]? = some v) : (zs.map By)[s * 128 + j]? = some v := by
  unfold sct at h
  rw [List.getElem?_map] at h ⊢
  by_cases hj : j < 128
  · rw [List.getElem?_take_of_lt hj, List.getElem?_drop] at h; exact h
  · rw [List.getElem?_eq_none (by simp; omega)] at h; cases h
theorem sct_flt {M : Nat → List Nat} (hM : ∀ s, s < 1024 → Sec (M s)) (s : Nat) (hs : s < 1024) : sct (flt M 1024) s = M s := by
  have hl := flt_len (M := M) (k := 1024) (fun s hs => (hM s hs).1)
  apply List.ext_getElem?
  intro j
  unfold sct
  by_cases hj : j < 128
  · rw [List.getElem?_take_of_lt hj, List.getElem?_drop]; exact flt_get (fun s hs => (hM s hs).1) hs hj
  · rw [List.getElem?_eq_none (by simp; omega), List.getElem?_eq_none (by rw [(hM s hs).1]; omega)]
theorem of_size (n cap : Nat) (ao : Option Addr) (w : World) (hn : n ≠ 131072) : Calls Try.prog 6 #[.slice ao n cap] w fun e w' => e = .returned (.tuple #[.pointer none, .int .i64 41]) ∧ w' = w := by
  have hd : ((n : Int) == 131072) = false := by rw [beq_eq_false_iff_ne]; omega
  have hd2 : (n == 131072) = false := by rw [beq_eq_false_iff_ne]; exact hn
  clear hn
  go_enter Try.func6, Try.ntmps6
  go_wp2
  go_ret2
  exact ⟨rfl, rfl⟩
/-- Of over an own row of the right length -/
theorem of_row {w : World} {base : Nat} {v : Value} {zs : List Nat} (h : Ow w base v zs) (hl : zs.length = 131072) (hz : ∀ z ∈ zs, z < 256) :
    Calls Try.prog 6 #[v] w fun e w' => e = .returned (.tuple #[dp w.heap.size, .int .i64 0]) ∧ DkA w.heap.size (cln (sct zs) 0) w' (fun b => b = w.heap.size) ∧ Below w.heap.size w w' := by
  obtain ⟨g, cap, rfl, _, hcap, hg⟩ := h.some_of (by omega)
  have hc := World.ownsRow.cells h rfl
  rw [hl] at hcap ⊢
  exact of_any g cap (sct zs) (sct_sec hl hz) w hg hcap (fun s _ j v hv => by have := hc _ _ (sct_get hv); rw [add0] at this; exact this)
theorem ofR_rd {w : World} {v : Value} {zs : List Nat} (h : Rd w v zs) (hl : zs.length = 131072) (hz : ∀ z ∈ zs, z < 256) (hcap : ∀ x n c, v = .slice (some x) n c → n ≤ c) :
    Calls Try.prog 8 #[v] w fun e w' => e = .returned (.tuple #[tp w.heap.size, .int .i64 0]) ∧ ∃ F', RkA w.heap.size (cln (sct zs) 0) 1024 w' F' ∧ (∀ b, F' b → w.heap.size ≤ b) ∧ Below w.heap.size w w' := by
  rcases h with ⟨_, h0⟩ | ⟨x, cap, rfl, hc⟩
  · rw [h0] at hl; simp at hl
  · have := hcap x _ _ rfl
    rw [hl] at this ⊢
    exact ofR_any x cap (sct zs) w (sct_sec hl hz) this (fun s _ j v hv => hc _ _ (sct_get hv))
end Go.Proofs.Ytnpklhjndominaa
