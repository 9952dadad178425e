import Derived.Test.YtmdcmpkjhflgpaaRO
namespace Go.Proofs.Ytmdcmpkjhflgpaa
open Go.RowKit

/-- the blocks of a pair -/
def All (x : Ix) : Nat → Prop := fun b => b = x.B ∨ b = x.G ∨ b = x.B' ∨ b = x.G'
/-- both pairs -/
structure Wk (w wr : World) (x y : Ix) (K : Nat) : Prop where
  one : ∃ m r, Pr wr x m r ∧ ∀ j, (m j).h ≤ K
  two : ∃ m r, Pr wr y m r ∧ ∀ j, (m j).h ≤ K
  ap : ∀ b, All x b → ¬ All y b
  low : (∀ b, All x b → w.heap.size ≤ b) ∧ ∀ b, All y b → w.heap.size ≤ b
  bel : Below w.heap.size w wr
theorem own_all {x : Ix} {b : Nat} (h : Own x b) : All x b := by rcases h with h | h; exact .inr (.inl h); exact .inr (.inr (.inr h))
theorem Pr.mod {w w' : World} {x : Ix} {m r : Nat → Fr} (h : Pr w x m r) {F : Nat → Prop} (hm : Mod F w w') (hF : ∀ b, All x b → ¬ F b) : Pr w' x m r :=
  ⟨h.mem.mod hm (hF _ (.inl rfl)) (hF _ (.inr (.inl rfl))), h.ref.mod hm (hF _ (.inr (.inr (.inl rfl)))) (hF _ (.inr (.inr (.inr rfl)))), h.al, h.ap, h.n64⟩
theorem Wk.below {w wr w' : World} {x y : Ix} {K : Nat} (h : Wk w wr x y K) (hb : Below wr.heap.size wr w') : Wk w w' x y K := by
  obtain ⟨⟨m, r, h1, h2⟩, ⟨m', r', h3, h4⟩, h5, h6, h7⟩ := h
  exact ⟨⟨m, r, h1.below hb, h2⟩, ⟨m', r', h3.below hb, h4⟩, h5, h6, h7.trans (hb.mono h7.size)⟩
theorem Wk.x {w wr : World} {x y : Ix} {K : Nat} (h : Wk w wr x y K) : EI wr wr x K ∧ EI wr wr y K := by
  obtain ⟨⟨m, r, h1, h2⟩, ⟨m', r', h3, h4⟩, _, _, _⟩ := h
  exact ⟨⟨m, r, h1, h2, Mod.refl _ _⟩, ⟨m', r', h3, h4, Mod.refl _ _⟩⟩
theorem Wk.go1 {w wr w' : World} {x y : Ix} {K K' : Nat} (h : Wk w wr x y K) (hk : K ≤ K') (g : EI wr w' x K') : Wk w w' x y K' := by
  obtain ⟨m, r, h1, h2, h3⟩ := g
  obtain ⟨_, ⟨m', r', h5, h6⟩, h7, h8, h9⟩ := h
  exact ⟨⟨m, r, h1, h2⟩, ⟨m', r', h5.mod h3 (fun b hb ho => h7 b (own_all ho) hb), fun j => Nat.le_trans (h6 j) hk⟩, h7, h8, h9.trans (h3.below (fun b hb => h8.1 b (own_all hb)) h9.size)⟩
theorem Wk.go2 {w wr w' : World} {x y : Ix} {K K' : Nat} (h : Wk w wr x y K) (hk : K ≤ K') (g : EI wr w' y K') : Wk w w' x y K' := by
  obtain ⟨m, r, h1, h2, h3⟩ := g
  obtain ⟨⟨m', r', h5, h6⟩, _, h7, h8, h9⟩ := h
  exact ⟨⟨m', r', h5.mod h3 (fun b hb ho => h7 b hb (own_all ho)), fun j => Nat.le_trans (h6 j) hk⟩, ⟨m, r, h1, h2⟩, h7, h8, h9.trans (h3.below (fun b hb => h8.2 b (own_all hb)) h9.size)⟩
/-- a block of a step's own is none of the pairs' -/
theorem EI.mod {w w' : World} {x : Ix} {K : Nat} (h : EI w w' x K) : Mod (Own x) w w' := by obtain ⟨_, _, _, _, h3⟩ := h; exact h3
theorem Wk.nown {w wr : World} {x y : Ix} {K : Nat} (h : Wk w wr x y K) : ¬ Own x wr.heap.size ∧ ¬ Own y wr.heap.size := by
  obtain ⟨⟨m, r, h1, h2⟩, ⟨m', r', h3, h4⟩, _, _, _⟩ := h
  exact ⟨h1.not_own, h3.not_own⟩
/-- the four memories, new -/
theorem Wk.start {w w1 w2 w3 w4 : World} {n1 n2 : Nat} (l1 : n1 ≤ 64) (l2 : n2 ≤ 64) (a1 : MemAt w1 (w.heap.size + 1) w.heap.size n1 (fun _ => Fr.nil)) (b1 : Below w.heap.size w w1) (a2 : RNew w1 w2 n1) (a3 : MemAt w3 (w2.heap.size + 1) w2.heap.size n2 (fun _ => Fr.nil)) (b3 : Below w2.heap.size w2 w3) (a4 : RNew w3 w4 n2) :
    ∃ G1 c1 o1 G2 c2 o2, Wk w w4 ⟨w.heap.size + 1, w.heap.size, w1.heap.size, G1, n1, c1, o1⟩ ⟨w2.heap.size + 1, w2.heap.size, w3.heap.size, G2, n2, c2, o2⟩ 1 := by
  obtain ⟨G1, c1, o1, d1, d2, d3⟩ := a2
  obtain ⟨G2, c2, o2, e1, e2, e3⟩ := a4
  have s1 := a1.lt
  have s2 := d1.lt
  have s3 := d1.glt
  have s4 := a3.lt
  have s5 := e1.lt
  have s6 := e1.glt
  have t1 := b1.size
  have t2 := d3.size
  have t3 := b3.size
  have b24 := b3.trans (e3.mono t3)
  have b14 := d3.trans (b24.mono t2)
  have hal : ∀ n, Al n (fun _ => Fr.nil) (fun _ => Fr.nil) := fun n f _ => ⟨rfl, fun _ => rfl⟩
  refine ⟨G1, c1, o1, G2, c2, o2, ⟨⟨_, _, ⟨a1.below b14, d1.below b24, hal _, ⟨by simp; omega, by simp; omega, by simp; omega⟩, l1⟩, fun j => by simp [Fr.nil]⟩, ⟨_, _, ⟨a3.below e3, e1, hal _, ⟨by simp; omega, by simp; omega, by simp; omega⟩, l2⟩, fun j => by simp [Fr.nil]⟩, ?_, ⟨?_, ?_⟩, b1.trans (b14.mono t1)⟩⟩
  · intro b hb hc
    simp only [All] at hb hc
    omega
  · intro b hb
    simp only [All] at hb
    omega
  · intro b hb
    simp only [All] at hb
    omega
set_option maxRecDepth 10000 in
set_option maxHeartbeats 4000000 in
theorem plays_walk (f1 f2 : Int) (a : Option Addr) (len cap : Nat) (O : Nat → Ost) (w : World) (hl : len < 1152921504606846976) (hO : IsOps w a len O) :
    Calls Try.prog 3 #[.int .i64 f1, .int .i64 f2, .slice a len cap] w fun e w' => e = .returned (.bool true) ∧ Below w.heap.size w w' := by
  obtain ⟨n1, hn1⟩ : ∃ n : Nat, (n : Int) = min (max f1 0) 64 := ⟨(min (max f1 0) 64).toNat, by omega⟩
  obtain ⟨n2, hn2⟩ : ∃ n : Nat, (n : Int) = min (max f2 0) 64 := ⟨(min (max f2 0) 64).toNat, by omega⟩
  have HN := hide (And.intro hn1 hn2)
  have l1 : n1 ≤ 64 := by omega
  have l2 : n2 ≤ 64 := by omega
  have HO := hide hO
  clear hn1 hn2 hO
  go_enter Try.func3, Try.ntmps3
  go_wp2_with fail
  refine (new_any w f1 n1 HN.out.1).mono ?_
  rintro e w1 ⟨rfl, a1, b1⟩
  go_wp2_with fail
  refine (rnew_any w1 f1 n1 HN.out.1).mono ?_
  rintro e w2 ⟨rfl, a2⟩
  go_wp2_with fail
  refine (new_any w2 f2 n2 HN.out.2).mono ?_
  rintro e w3 ⟨rfl, a3, b3⟩
  go_wp2_with fail
  refine (rnew_any w3 f2 n2 HN.out.2).mono ?_
  rintro e w4 ⟨rfl, a4⟩
  obtain ⟨G1, k1, o1, G2, k2, o2, hW⟩ := Wk.start l1 l2 a1 b1 a2 a3 b3 a4
  clear a1 b1 a2 a3 b3 a4 HN
  generalize hx : (⟨w.heap.size + 1, w.heap.size, w1.heap.size, G1, n1, k1, o1⟩ : Ix) = x at hW
  generalize hy : (⟨w2.heap.size + 1, w2.heap.size, w3.heap.size, G2, n2, k2, o2⟩ : Ix) = y at hW
  have e1 : w.heap.size + 1 = x.B := by rw [← hx]
  have e2 : w1.heap.size = x.B' := by rw [← hx]
  have e3 : w2.heap.size + 1 = y.B := by rw [← hy]
  have e4 : w3.heap.size = y.B' := by rw [← hy]
  have HW := hide hW
  have HE := hide (And.intro e1 (And.intro e2 (And.intro e3 e4)))
  clear hW hx hy l1 l2
  rw [e1, e2, e3, e4]
  clear e1 e2 e3 e4
  go_wp2
  go_loopw [11] (fun i wr => ∃ j : Nat, j ≤ len ∧ i = .int .i64 (j : Int) ∧ Wk w wr x y (j + 1)) (fun i _ => len - (intOf i).toNat)
  case atStart => exact ⟨0, by omega, rfl, HW.out⟩
  case round =>
    clear HW
    obtain ⟨j, hj, rfl, hW⟩ := hrel
    have HW := hide hW
    clear hW
    by_cases hlt : j < len
    · obtain ⟨ad, rfl, hx⟩ := HO.out.below HW.out.bel j hlt
      have hS3 := HW.out.below (freshO_below wr (O j))
      have hob := freshO_ob wr (O j)
      have hno := HW.out.nown
      generalize O j = o at *
      have hd1 : decide (j < len) = true := by simp; omega
      have hz : Ob (wr.alloc (.cells Ost.nil.cells.toArray 31)) wr.heap.size Ost.nil := Ob.new _ _
      go_upto_region 11 with (first | refine load34 ?lw _ rfl (ad.add (j * 37)) ?lx o ?lc ?_ | refine store34 ?hw _ _ rfl wr.heap.size o Ost.nil ?hx ?hy ?hz ?_)
      case lc => exact hx
      case lx => rfl
      case hx => rfl
      case hy => rfl
      case hz => exact hz
      show Code.wp _ _ _ _ (freshO wr o)
      clear hz hx HW
      generalize freshO wr o = w5 at *
      generalize wr.heap.size = N at *
      have HS := hide hS3
      have HOb := hide hob
      have HNo := hide hno
      obtain ⟨c0, _, _, _, _, _⟩ := hob.c
      clear hS3 hob hno
      cases ht : o.two
      · rw [ht] at c0
        have ra : ∀ (j : Nat) (v : Value), o.cells[j]? = some v → w5.cell? ((⟨N, 0, none⟩ : Addr).add j) = some v := fun j v hv => by rw [add0]; exact HOb.out.get hv
        go_wp2_with (refine load34 rfl _ rfl ⟨N, 0, none⟩ rfl o ra ?_)
        refine (HS.out.x.1.plays (by omega) (by omega) o).mono ?_
        rintro e w6 ⟨rfl, h6⟩
        have H6 := hide (HS.out.go1 (by omega) h6)
        clear h6 ra c0
        go_wp2
        go_roundw
        case rel => exact ⟨j + 1, by omega, by go_num, H6.out⟩
        case measure => simp [intOf]; omega
      · rw [ht] at c0
        have ra : ∀ (j : Nat) (v : Value), o.cells[j]? = some v → w5.cell? ((⟨N, 0, none⟩ : Addr).add j) = some v := fun j v hv => by rw [add0]; exact HOb.out.get hv
        go_wp2_with (refine load34 rfl _ rfl ⟨N, 0, none⟩ rfl o ra ?_)
        refine (HS.out.x.2.plays (by omega) (by omega) o).mono ?_
        rintro e w6 ⟨rfl, h6⟩
        obtain ⟨d0, _, _, _, _, _⟩ := (HOb.out.mod h6.mod HNo.out.2).c
        rw [ht] at d0
        have H6 := hide (HS.out.go2 (by omega) h6)
        clear h6 ra c0
        go_wp2
        go_roundw
        case rel => exact ⟨j + 1, by omega, by go_num, H6.out⟩
        case measure => simp [intOf]; omega
    · obtain rfl : j = len := by omega
      have hd1 : decide (j < j) = false := by simp
      go_wp2_with fail
      refine (ends_any HW.out.x.1 (by omega) (by omega)).mono ?_
      rintro e w5 ⟨rfl, h5⟩
      have H5 := hide (HW.out.go1 (by omega) h5)
      clear h5
      go_wp2_with fail
      refine (ends_any H5.out.x.2 (by omega) (by omega)).mono ?_
      rintro e w6 ⟨rfl, h6⟩
      have H6 := hide (H5.out.go2 (by omega) h6)
      clear h6
      go_wp2
      go_ret
      exact ⟨rfl, H6.out.bel⟩
end Go.Proofs.Ytmdcmpkjhflgpaa
