import Derived.Test.YtihkkbbphdgagaaP3
namespace Go.Proofs.Ytihkkbbphdgagaa
open Go.RowKit

def In8 (z : Nat) : Value := .int .u8 (z : Int)
def OwY (w : World) (base : Nat) (v : Value) (zs : List Nat) : Prop := w.ownsRow base 5 1 v zs.length (zs.map In8)
theorem OwY.len {w : World} {base : Nat} {v : Value} {zs : List Nat} (h : OwY w base v zs) : ∃ ao cap, v = .slice ao zs.length cap := by
  obtain ⟨hl, ⟨rfl, h0⟩ | ⟨g, cap, cur, rfl, _⟩⟩ := h
  · exact ⟨none, 0, by rw [h0]⟩
  · exact ⟨_, _, rfl⟩
theorem OwY.mono {w : World} {base base' : Nat} {v : Value} {zs : List Nat} (h : OwY w base v zs) (hb : base' ≤ base) : OwY w base' v zs := by
  obtain ⟨h1, ⟨h2, h3⟩ | ⟨g, cc, cur, h2, h3, h4⟩⟩ := h
  · exact ⟨h1, .inl ⟨h2, h3⟩⟩
  · exact ⟨h1, .inr ⟨g, cc, cur, h2, by omega, h4⟩⟩
/-- the first n bytes of a page -/
def pk (p : Nat → Nat) (n : Nat) : List Nat := (List.range n).map (pb p)
theorem pk_len (p : Nat → Nat) (n : Nat) : (pk p n).length = n := by simp [pk]
theorem pk_succ (p : Nat → Nat) (n : Nat) : pk p (n + 1) = pk p n ++ [pb p n] := by simp [pk, List.range_succ]
theorem grown_up {wr w2 : World} {base : Nat} {o : Obj} {row : Option Nat} {N : Nat} {p : Nat → Nat} (h : Pg wr N p) (hg : (wr.alloc o).grownBy w2 row) (hr : ∀ k, row = some k → base ≤ k) (hN : N < base) : Pg w2 N p := by
  have h2 := h.up ((Below.refl _ _).alloc (Nat.le_refl _) o)
  exact ⟨by rw [hg.block N h2.lt (fun e => by have := hr N e.symm; omega)]; exact h2.out⟩
set_option maxRecDepth 100000 in
set_option maxHeartbeats 1000000 in
theorem rpack_any (p : Nat → Nat) (hp : ∀ i, i < 32 → p i < 4294967296) (w : World) :
    Calls Try.prog 11 #[.agg (page p).toArray] w fun e w' => ∃ r, e = .returned r ∧ OwY w' w.heap.size r (pk p 128) ∧ Below w.heap.size w w' := by
  obtain ⟨i5, hi, hz, hs, hb⟩ := info5'
  have hp0 : Pg (w.alloc (.cells (page p).toArray 24)) w.heap.size p := ⟨heap_alloc_last _ _⟩
  have hb0 : Below w.heap.size w (w.alloc (.cells (page p).toArray 24)) := (Below.refl _ _).alloc (Nat.le_refl _) _
  have hs0 : (w.alloc (.cells (page p).toArray 24)).heap.size = w.heap.size + 1 := by simp
  go_enter Try.func11, Try.ntmps11
  go_upto_region 1 with fail
  generalize w.alloc (.cells (page p).toArray 24) = w0 at *
  have H0 := hide (And.intro hp0 (And.intro hb0 (show w.heap.size + 1 ≤ w0.heap.size by omega)))
  clear hp0 hb0 hs0
  go_wp2
  go_loopw [3, 4, 5, 6] (fun b i _ _ wr => ∃ k : Nat, k ≤ 32 ∧ i = .int .i64 (k : Int) ∧ OwY wr (w.heap.size + 1) b (pk p (4 * k)) ∧ Pg wr w.heap.size p ∧ Below w.heap.size w wr ∧ w.heap.size + 1 ≤ wr.heap.size) (fun _ i _ _ _ => 32 - (intOf i).toNat)
  case atStart => exact ⟨0, by omega, rfl, World.ownsRow_nil _ _ _ _, H0.out⟩
  case round =>
    clear H0
    obtain ⟨k, hk, rfl, hO, hP, hb1, hsz⟩ := hrel
    by_cases hlt : k < 32
    · have hd : decide ((k : Int) < 32) = true := by simp; omega
      have c1 := hP.cell hlt
      have hpk := hp k hlt
      have HX := hide (And.intro hO (And.intro hP (And.intro hb1 hsz)))
      obtain ⟨V0, hV0⟩ : ∃ V0, p k = V0 := ⟨_, rfl⟩
      rw [hV0] at c1 hpk
      clear hO hP hb1 hsz
      go_wp2
      go_loopw [3, 5, 6] (fun b v i wr => ∃ (j V : Nat), j ≤ 4 ∧ i = .int .i64 (j : Int) ∧ v = .int .u32 (V : Int) ∧ V = V0 / 2 ^ (j * 8) ∧ OwY wr (w.heap.size + 1) b (pk p (4 * k + j)) ∧ Pg wr w.heap.size p ∧ Below w.heap.size w wr ∧ w.heap.size + 1 ≤ wr.heap.size) (fun _ _ i _ => 4 - (intOf i).toNat)
      case atStart => exact ⟨0, V0, by omega, rfl, rfl, by simp, HX.out⟩
      case round =>
        clear HX c1
        obtain ⟨j, V, hj, rfl, rfl, hV, hO, hP, hb1, hsz⟩ := hrel
        by_cases hlj : j < 4
        · have hd2 : decide ((j : Int) < 4) = true := by simp; omega
          have hVl : V < 4294967296 := by rw [hV]; exact Nat.lt_of_le_of_lt (Nat.div_le_self _ _) hpk
          have hby : V % 256 = pb p (4 * k + j) := by
            unfold pb
            rw [show (4 * k + j) / 4 = k by omega, show (4 * k + j) % 4 = j by omega, hV0, hV]
          have hnx : V / 256 = V0 / 2 ^ ((j + 1) * 8) := by
            rw [hV, Nat.div_div_eq_div_mul, show (j + 1) * 8 = j * 8 + 8 by omega, Nat.pow_add]
          obtain ⟨ao, cp, rfl⟩ := hO.len
          rw [pk_len] at hO ⊢
          have HO : Hid (wr.ownsRow (w.heap.size + 1) 5 1 (.slice ao (4 * k + j) cp) (4 * k + j) ((pk p (4 * k + j)).map In8)) := hide (by have := hO; unfold OwY at this; rwa [pk_len] at this)
          have HP := hide (And.intro hP (And.intro hb1 hsz))
          have HV := hide (And.intro hV (And.intro hby hnx))
          clear hO hP hb1 hsz hV hby hnx
          obtain ⟨y, hy⟩ : ∃ y, V % 256 = y := ⟨_, rfl⟩
          obtain ⟨c, hc⟩ : ∃ c, V / 256 = c := ⟨_, rfl⟩
          have hyi : (V : Int) % 256 = (y : Int) := by omega
          have hci : (V : Int) / 256 = (c : Int) := by omega
          have hyl : y < 256 := by omega
          have hcl : c < 4294967296 := by omega
          have hw1 : IntKind.u8.wrap (y : Int) = (y : Int) := by rw [IntKind.wrap_u8]; omega
          have hw3 : IntKind.u32.wrap (c : Int) = (c : Int) := by rw [IntKind.wrap_u32]; omega
          have hw4 : (y : Int) % 256 = (y : Int) := by omega
          rw [hy, hc] at HV
          clear hy hc
          go_wp2_with (at_builtin; refine wpList_append_own _ rfl _ _ 25 rfl (w.heap.size + 1) 5 i5 (.int .u8 0) 1 1 Try.underlying25 hi hz hs hb rfl (by decide) _ (4 * k + j) ((pk p (4 * k + j)).map In8) rfl (HO.out.alloc _) ⟨wr.heap.size, 0, none⟩ 1 1 [In8 y] rfl rfl ?c1 ?c2 ?c3 ?c4 ?c5 ?_)
          case c1 => exact cell_one_new _ _ _
          case c2 => simp [In8, Value.oneCell']
          case c3 => unfold maxLen; omega
          case c4 => omega
          case c5 => simp; have := HP.out.2.2; omega
          intro r2 w3 hown hg3 _
          have HX : Hid (OwY w3 (w.heap.size + 1) r2 (pk p (4 * k + (j + 1))) ∧ Pg w3 w.heap.size p ∧ Below w.heap.size w w3 ∧ w.heap.size + 1 ≤ w3.heap.size) := by
            refine hide ⟨?_, grown_up HP.out.1 hg3 (fun q e => (World.ownsRow.lt HO.out q e).1) (by omega), ?_, ?_⟩
            · unfold OwY
              rw [show 4 * k + (j + 1) = 4 * k + j + 1 by omega, pk_succ, List.length_append, pk_len, List.map_append, ← HV.out.2.1]; exact hown
            · exact (HP.out.2.1.alloc HP.out.2.1.size _).grown hg3 (by simp; have := HP.out.2.1.size; omega) (fun q e => by have := (World.ownsRow.lt HO.out q e).1; omega)
            · have := hg3.size; simp at this; have := HP.out.2.2; omega
          clear hown hg3 HO HP
          go_wp2
          go_roundw
          case rel => exact ⟨j + 1, c, by omega, by go_num, rfl, HV.out.2.2, HX.out⟩
          case measure => simp [intOf]; omega
        · have hd2 : decide ((j : Int) < 4) = false := by simp; omega
          have hj4 : j = 4 := by omega
          have HX : Hid (OwY wr (w.heap.size + 1) _ (pk p (4 * (k + 1))) ∧ Pg wr w.heap.size p ∧ Below w.heap.size w wr ∧ w.heap.size + 1 ≤ wr.heap.size) := hide ⟨by rw [show 4 * (k + 1) = 4 * k + j by omega]; exact hO, hP, hb1, hsz⟩
          clear hO hP hb1 hsz hj4
          go_wp2
          go_roundw
          case rel => exact ⟨k + 1, by omega, by go_num, HX.out⟩
          case measure => simp [intOf]; omega
    · have hd : decide ((k : Int) < 32) = false := by simp; omega
      have hk32 : k = 32 := by omega
      rw [hk32] at hO
      have HX := hide (And.intro (hO.mono (Nat.le_succ w.heap.size)) hb1)
      clear hO hP hb1 hsz hk32
      go_wp2
      go_ret
      exact ⟨_, rfl, HX.out⟩
end Go.Proofs.Ytihkkbbphdgagaa
