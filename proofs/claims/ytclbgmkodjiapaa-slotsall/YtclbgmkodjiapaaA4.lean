import Derived.Test.YtclbgmkodjiapaaA3
namespace Go.Proofs.Ytclbgmkodjiapaa
open Go.RowKit

/-- the program's table and the document's side by side, both laid behind w -/
structure Duo (w W : World) (F : Nat → Prop) (B : Nat) (m : List (Option Int)) (G : Nat → Prop) (R : Nat) (m2 : List (Option Int)) : Prop where
  tab : Tab KI W F B m
  ref : Ref W G R m2
  dis : ∀ b, F b → ¬ G b
  loF : ∀ b, F b → w.heap.size ≤ b
  loG : ∀ b, G b → w.heap.size ≤ b
  bel : Below w.heap.size w W
section
variable {w W W' : World} {F F' G : Nat → Prop} {B R : Nat} {m m' m2 m2' : List (Option Int)}
theorem Duo.left (h : Duo w W F B m G R m2) (hT : Tab KI W' F' B m') (hx : Ext F W F' W') : Duo w W' F' B m' G R m2 :=
  ⟨hT, h.ref.apart hx (fun b h1 h2 => h.dis b h2 h1), fun b h1 h2 => (hx.new b h1).elim (fun h3 => h.dis b h3 h2) (fun h3 => by have := h.ref.lt b h2; omega), hx.low h.loF h.bel.size, h.loG, h.bel.trans (hx.mod.below h.loF h.bel.size)⟩
theorem Duo.right (h : Duo w W F B m G R m2) (hT : Ref W' G R m2') (hx : Ext G W G W') : Duo w W' F B m G R m2' :=
  ⟨h.tab.apart hx (fun b h1 h2 => h.dis b h1 h2), hT, h.dis, h.loF, h.loG, h.bel.trans (hx.mod.below h.loG h.bel.size)⟩
theorem Duo.below (h : Duo w W F B m G R m2) (hb : Below W.heap.size W W') : Duo w W' F B m G R m2 :=
  ⟨h.tab.below hb, h.ref.below hb, h.dis, h.loF, h.loG, h.bel.trans (hb.mono h.bel.size)⟩
theorem Duo.alloc (h : Duo w W F B m G R m2) (o : Obj) : Duo w (W.alloc o) F B m G R m2 := h.below ((Below.refl _ _).alloc (Nat.le_refl _) o)
end
set_option maxRecDepth 8000 in
set_option maxHeartbeats 3200000 in
theorem filled_any (w : World) (bound : Int) (a1 : Option Addr) (len cap : Nat) (Z : Nat → Int × Int × Int × Int) (hlen : len ≤ maxLen) (hZ : IsQuads w a1 len Z) :
    Calls Try.prog 5 #[.int .i64 bound, .slice a1 len cap] w fun x w' => ∃ B R F G m, x = .returned (.tuple #[.pointer (some ⟨B, 0, none⟩), .pointer (some ⟨R, 0, none⟩)]) ∧ Duo w w' F B m G R m := by
  have HZ := hide hZ
  have hlen2 : len ≤ 9223372036854775807 := hlen
  clear hZ hlen
  go_enter Try.func5, Try.ntmps5
  go_wp2_with fail
  refine (newI_any w bound).mono ?_
  rintro e w1 ⟨rfl, hT1, hb1⟩
  have HT1 := hide hT1
  have HB1 := hide hb1
  clear hT1 hb1
  go_wp2_with fail
  refine (newR_any w1 bound).mono ?_
  rintro e w2 ⟨R, G, rfl, hR2, hlo2, hb2⟩
  have HD : Hid (Duo w w2 _ _ _ G R _) := hide ⟨HT1.out.below hb2, hR2, fun b h1 h2 => by have := HT1.out.lt b h1; have := hlo2 b h2; omega, fun b h1 => by omega, fun b h1 => by have := hlo2 b h1; have := HB1.out.size; omega, HB1.out.trans (hb2.mono HB1.out.size)⟩
  clear hR2 hlo2 hb2 HT1 HB1
  go_wp2
  go_loopw [8] (fun i wr => ∃ k : Nat, k ≤ len ∧ i = .int .i64 k ∧ ∃ (F : Nat → Prop) (G : Nat → Prop) (mk : List (Option Int)), Hid (Duo w wr F (w.heap.size + 1) mk G R mk)) (fun i _ => len - (intOf i).toNat)
  case atStart => exact ⟨0, by omega, rfl, _, G, _, HD⟩
  case round =>
    obtain ⟨k, hk, rfl, F1, G1, mk, HD1⟩ := hrel
    clear HD
    by_cases hlt : k < len
    · obtain ⟨x, rfl, z0, z1, z2, z3⟩ := quad_at HZ.out HD1.out.bel hlt
      have HD2 := hide (HD1.out.alloc (.cells #[.int .i64 (Z k).1, .int .i64 (Z k).2.1, .int .i64 (Z k).2.2.1, .int .i64 (Z k).2.2.2] 51))
      have bo := heap_alloc_new wr (.cells #[.int .i64 (Z k).1, .int .i64 (Z k).2.1, .int .i64 (Z k).2.2.1, .int .i64 (Z k).2.2.2] 51)
      have nF : ¬ F1 wr.heap.size := fun h => by have := HD1.out.tab.lt _ h; omega
      clear HD1
      go_upto_region 9 with fail
      generalize wr.alloc (.cells #[.int .i64 (Z k).1, .int .i64 (Z k).2.1, .int .i64 (Z k).2.2.1, .int .i64 (Z k).2.2.2] 51) = wA at *
      generalize (Z k).1 = kd at *
      generalize (Z k).2.1 = zt at *
      generalize (Z k).2.2.1 = zi at *
      generalize (Z k).2.2.2 = zv at *
      have hbl := (Array.getElem?_eq_some_iff.1 bo).1
      obtain ⟨o0, o1, o2, o3⟩ := row4 bo
      clear z0 z1 z2 z3
      by_cases k1 : kd = 1
      · subst k1
        go_wp2_with fail
        refine (putI_do _ F1 _ mk HD2.out.tab zv).mono ?_
        rintro e w5 ⟨v5, F5, rfl, hT5, hx5⟩
        have HD5 := hide (HD2.out.left hT5 hx5)
        have bo5 := (hx5.mod.block _ hbl nF).trans bo
        clear hT5 hx5 HD2 o0 o1 o2 o3 bo nF
        obtain ⟨o0, o1, o2, o3⟩ := row4 bo5
        go_wp2_with fail
        refine (putR_do _ G1 R mk HD5.out.ref zv).mono ?_
        rintro e w6 ⟨v6, rfl, hT6, hx6⟩
        have HD6 := hide (HD5.out.right hT6 hx6)
        clear hT6 hx6 HD5 o0 o1 o2 o3 bo5
        go_wp2
        go_roundw
        case rel => exact ⟨k + 1, by omega, by go_num, _, _, _, HD6⟩
        case measure => simp [intOf]; omega
      have n1 : (kd == 1) = false := by simp [k1]
      by_cases k2 : kd = 2
      · subst k2
        clear k1
        go_wp2_with fail
        refine (putAtI_do _ F1 _ mk HD2.out.tab zi zv).mono ?_
        rintro e w5 ⟨v5, F5, rfl, hT5, hx5⟩
        have HD5 := hide (HD2.out.left hT5 hx5)
        have bo5 := (hx5.mod.block _ hbl nF).trans bo
        clear hT5 hx5 HD2 o0 o1 o2 o3 bo nF
        obtain ⟨o0, o1, o2, o3⟩ := row4 bo5
        go_wp2_with fail
        refine (putAtR_do _ G1 R mk HD5.out.ref zi zv).mono ?_
        rintro e w6 ⟨v6, rfl, hT6, hx6⟩
        have HD6 := hide (HD5.out.right hT6 hx6)
        clear hT6 hx6 HD5 o0 o1 o2 o3 bo5
        go_wp2
        go_roundw
        case rel => exact ⟨k + 1, by omega, by go_num, _, _, _, HD6⟩
        case measure => simp [intOf]; omega
      have n2 : (kd == 2) = false := by simp [k2]
      by_cases k5 : kd = 5
      · subst k5
        clear k1 k2
        go_wp2_with fail
        refine (dropI_do _ F1 _ mk HD2.out.tab zi).mono ?_
        rintro e w5 ⟨v5, F5, rfl, hT5, hx5⟩
        have HD5 := hide (HD2.out.left hT5 hx5)
        have bo5 := (hx5.mod.block _ hbl nF).trans bo
        clear hT5 hx5 HD2 o0 o1 o2 o3 bo nF
        obtain ⟨o0, o1, o2, o3⟩ := row4 bo5
        go_wp2_with fail
        refine (dropR_do _ G1 R mk HD5.out.ref zi).mono ?_
        rintro e w6 ⟨v6, rfl, hT6, hx6⟩
        have HD6 := hide (HD5.out.right hT6 hx6)
        clear hT6 hx6 HD5 o0 o1 o2 o3 bo5
        go_wp2
        go_roundw
        case rel => exact ⟨k + 1, by omega, by go_num, _, _, _, HD6⟩
        case measure => simp [intOf]; omega
      have n5 : (kd == 5) = false := by simp [k5]
      have HD6 := HD2
      go_wp2
      go_roundw
      case rel => exact ⟨k + 1, by omega, by go_num, _, _, _, HD6⟩
      case measure => simp [intOf]; omega
    · go_wp2
      go_ret2
      exact ⟨_, R, F1, G1, mk, rfl, HD1.out⟩
set_option maxRecDepth 8000 in
set_option maxHeartbeats 1600000 in
theorem alike_any (w : World) (F G : Nat → Prop) (B R : Nat) (m : List (Option Int)) (hT : Tab KI w F B m) (hR : Ref w G R m) :
    Calls Try.prog 11 #[.pointer (some ⟨B, 0, none⟩), .pointer (some ⟨R, 0, none⟩)] w fun x w' => x = .returned (.bool true) ∧ w' = w := by
  have HT := hide hT
  have HR := hide hR
  have hcap := hT.cap
  obtain ⟨p, q, h⟩ := hR
  have c0 := h.cells.1
  clear hT h
  go_enter Try.func11, Try.ntmps11
  go_wp2
  go_loopw [5] (fun i wr => ∃ k : Nat, k ≤ m.length ∧ i = .int .i64 k ∧ wr = w) (fun i _ => m.length - (intOf i).toNat)
  case atStart => exact ⟨0, by omega, rfl, rfl⟩
  case round =>
    obtain ⟨k, hk, rfl, rfl⟩ := hrel
    generalize hml : m.length = nn at *
    have HM := hide hml
    clear hml
    by_cases hlt : k < nn
    · go_wp2_with fail
      refine (getI_any _ F B m HT.out k).mono ?_
      rintro e w5 ⟨rfl, rfl⟩
      go_wp2_with fail
      refine (getR_any _ G R m HR.out k).mono ?_
      rintro e w5 ⟨rfl, rfl⟩
      generalize (look m (k : Int)).getD 0 = gv at *
      generalize (look m (k : Int)).isSome = gb at *
      go_wp2
      go_roundw
      case rel => exact ⟨k + 1, by omega, by go_num, by first | rfl | trivial⟩
      case measure => simp [intOf]; omega
    · go_wp2_with fail
      refine (lenI_any _ F B m HT.out).mono ?_
      rintro e w5 ⟨rfl, rfl⟩
      go_wp2_with fail
      refine (lenR_any _ G R m HR.out).mono ?_
      rintro e w5 ⟨rfl, rfl⟩
      go_wp2
      go_ret
      exact ⟨rfl, rfl⟩
end Go.Proofs.Ytclbgmkodjiapaa
