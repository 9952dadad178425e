import Derived.Test.YtooikfmebjohfaaR1
import Derived.Laws.StructEq
import Derived.Laws.Cover2
import Derived.KernelRfl
import Derived.Deep.RegionWith
import Derived.Deep.Cut
namespace Go.Proofs.Ytooikfmebjohfaa
open Go.RowKit

theorem eq26 (a b x y : Int) (w : World) : (Op.equalIn 9999 26 (.agg #[.int .i64 a, .int .i64 b]) (.agg #[.int .i64 x, .int .i64 y])).run Try.prog w = .ok (a == x && b == y) w := by
  have u3 := Try.underlying3
  have a3 := Try.isAgg3
  have z3 := Try.sizeOf3
  rw [show (9999 : Nat) = 9998 + 1 from rfl, Op.equalIn]
  simp only [Sem.run_bind, run_underlying Try.underlying26, Result.andThen_ok]
  simp only [Std.Legacy.Range.forIn_eq_forIn_range', Std.Legacy.Range.size, Nat.sub_zero, Nat.add_sub_cancel, Nat.div_one, List.range'_succ, List.range'_zero, List.forIn_cons, List.forIn_nil]
  go_simp
  by_cases h1 : a = x <;> by_cases h2 : b = y <;> simp [h1, h2]
theorem meas_next {k q : Nat} {i : Int} (hq : q < k) (h : (∃ q' : Nat, i = q' ∧ q + 1 ≤ q') ∨ i = -1) : meas k (.int .i64 i) < meas k (.int .i64 (q : Int)) := by
  have e : ∀ x : Int, meas k (.int .i64 x) = if x < 0 then 0 else k + 1 - x.toNat := fun _ => rfl
  rw [e, e]
  rcases h with ⟨q', rfl, h2⟩ | rfl
  · rw [if_neg (by omega), if_neg (by omega)]; omega
  · rw [if_pos (by omega), if_neg (by omega)]; omega
/-- the table as it stands between the steps of the law -/
def St (w wr : World) (B : Nat) (m : List (Option Cl)) : Prop := ∃ F : Nat → Prop, Tab KC wr F B m ∧ (∀ x, F x → w.heap.size ≤ x) ∧ Below w.heap.size w wr
theorem St.step {w wr w' : World} {B : Nat} {m' : List (Option Cl)} {F F' : Nat → Prop} (hl : ∀ x, F x → w.heap.size ≤ x) (hb : Below w.heap.size w wr) (hT : Tab KC w' F' B m') (hE : Ext F wr F' w') : St w w' B m' :=
  ⟨F', hT, hE.low hl hb.size, hb.trans (hE.mod.below hl hb.size)⟩
theorem St.below {w wr w' : World} {B : Nat} {m : List (Option Cl)} (h : St w wr B m) (hb : Below wr.heap.size wr w') : St w w' B m := by
  obtain ⟨F, hT, hl, hB⟩ := h
  exact ⟨F, hT.below hb, hl, hB.trans (hb.mono hB.size)⟩
theorem St.put {w wr : World} {B : Nat} {m : List (Option Cl)} (h : St w wr B m) (c : Cl) :
    Calls Try.prog 31 #[.pointer (some ⟨B, 0, none⟩), c.val] wr fun x w' => (ff m < m.length → x = .returned (.tuple #[.int .i64 (ff m : Nat), .int .i64 0]) ∧ St w w' B (m.set (ff m) (some c))) ∧
      (ff m = m.length → x = .returned (.tuple #[.int .i64 (-1), .int .i64 2]) ∧ St w w' B m) := by
  obtain ⟨F, hT, hl, hB⟩ := h
  refine (putC_any wr F B m hT c).mono ?_
  rintro x w' ⟨h1, h2⟩
  refine ⟨fun e => ?_, fun e => ?_⟩
  · obtain ⟨rfl, F', hT', hE⟩ := h1 e
    exact ⟨rfl, St.step hl hB hT' hE⟩
  · obtain ⟨rfl, hT', hE⟩ := h2 e
    exact ⟨rfl, St.step hl hB hT' hE⟩
theorem St.drop {w wr : World} {B : Nat} {m : List (Option Cl)} (h : St w wr B m) (i : Int) :
    Calls Try.prog 33 #[.pointer (some ⟨B, 0, none⟩), .int .i64 i] wr fun e w' => ∃ v m', e = .returned v ∧ St w w' B m' ∧
      ((look m i = none ∧ m' = m ∧ v = .tuple #[Cl.zero.val, .bool false]) ∨ ∃ (k : Nat) (x : Cl), i = k ∧ m[k]? = some (some x) ∧ m' = m.set k none ∧ v = .tuple #[x.val, .bool true]) := by
  obtain ⟨F, hT, hl, hB⟩ := h
  refine (dropC_any wr F B m hT i).mono ?_
  rintro _ w' ⟨v, m', rfl, hT', hE, h⟩
  exact ⟨v, m', rfl, St.step hl hB hT' hE, h⟩
theorem St.len {w wr : World} {B : Nat} {m : List (Option Cl)} (h : St w wr B m) :
    Calls Try.prog 32 #[.pointer (some ⟨B, 0, none⟩)] wr fun x w' => x = .returned (.int .i64 ((m.countP Option.isSome : Nat) : Int)) ∧ w' = wr := by
  obtain ⟨F, hT, hl, hB⟩ := h
  exact lenC_any wr F B m hT
theorem St.next {w wr : World} {B : Nat} {m : List (Option Cl)} (h : St w wr B m) (i : Int) :
    Calls Try.prog 34 #[.pointer (some ⟨B, 0, none⟩), .int .i64 i] wr fun x w' => w' = wr ∧ ((∃ k : Nat, x = .returned (.int .i64 k) ∧ IsNext m i.toNat k) ∨ (x = .returned (.int .i64 (-1)) ∧ NoNext m i.toNat)) := by
  obtain ⟨F, hT, hl, hB⟩ := h
  exact nextC_any wr F B m hT i
theorem St.cap {w wr : World} {B : Nat} {m : List (Option Cl)} (h : St w wr B m) : m.length ≤ 4096 := by obtain ⟨F, hT, hl, hB⟩ := h; exact hT.cap
theorem St.bel {w wr : World} {B : Nat} {m : List (Option Cl)} (h : St w wr B m) : Below w.heap.size w wr := by obtain ⟨F, hT, hl, hB⟩ := h; exact hB

set_option maxRecDepth 8000 in
set_option maxHeartbeats 3200000 in
theorem refill_walk (a0 : Int) (a1 : Option Addr) (len cap : Nat) (z : List Int) (w : World) (hlen : len ≤ maxLen)
    (hv : ∀ k, k < len → ∃ x, a1 = some x ∧ w.cell? (x.add k) = some (.int .i64 (z.getD k 0))) :
    Calls Try.prog 5 #[.int .i64 a0, .slice a1 len cap] w fun e w' => e = .returned (.bool true) ∧ Below w.heap.size w w' := by
  have HV := hide hv
  have hl2 : len ≤ 9223372036854775807 := by unfold maxLen at hlen; omega
  have hcl := clp_le a0
  clear hv hlen
  go_enter Try.func5, Try.ntmps5
  go_wp2_with fail
  refine (newC_any _ a0).mono ?_
  rintro e w1 ⟨rfl, hT1, hb1⟩
  have HS1 : Hid (St w w1 (w.heap.size + 1) (List.replicate (clp a0) none)) := ⟨_, hT1, fun x hx => by omega, hb1⟩
  clear hT1 hb1
  generalize w.heap.size + 1 = B at *
  go_wp2_with fail
  refine (clamp_any _ a0).mono ?_
  rintro e w1' ⟨rfl, rfl⟩
  generalize clp a0 = b at *
  go_wp2_with fail
  refine (fixed_any _).mono ?_
  rintro e w2 ⟨rfl, hb2⟩
  have HS2 : Hid (St w w2 B (List.replicate b none)) := HS1.out.below hb2
  clear hb2 HS1
  go_wp2
  go_loopw [7] (fun i wr => ∃ r : Nat, r ≤ 2 ∧ i = .int .i64 r ∧ St w wr B (List.replicate b none)) (fun i _ => 2 - (intOf i).toNat)
  case atStart => exact ⟨0, by omega, rfl, HS2.out⟩
  case round =>
    obtain ⟨r, hr, rfl, hS3⟩ := hrel
    by_cases hr2 : r < 2
    · have HS3 := hide hS3
      have hdr : decide ((r : Int) < 2) = true := by simp; omega
      have HR2 := hide hr2
      clear hS3 HS2 hr2
      go_wp2
      go_loopw [8] (fun i wr => ∃ (k : Nat) (m : List (Option Cl)), k ≤ b ∧ i = .int .i64 k ∧ St w wr B m ∧ Hid (Filled m b k)) (fun i _ => b - (intOf i).toNat)
      case atStart => exact ⟨0, _, by omega, rfl, HS3.out, Filled.start b⟩
      case round =>
        obtain ⟨k, m, hk, rfl, hS, HF⟩ := hrel
        have HS := hide hS
        clear hS
        by_cases hlt : k < b
        · go_wp2_with fail
          refine (cell_any _ _).mono ?_
          rintro e w4 ⟨rfl, hb4⟩
          have HS4 := hide (HS.out.below hb4)
          clear hb4
          go_wp2_with fail
          refine (HS4.out.put _).mono ?_
          rintro e w5 ⟨h5, -⟩
          obtain ⟨rfl, hS5⟩ := h5 (by rw [HF.out.ff hk, HF.out.1]; exact hlt)
          rw [HF.out.ff hk] at hS5 ⊢
          have HS5 := hide hS5
          clear h5 hS5
          go_wp2
          go_roundw
          case rel =>
            first
              | exact ⟨k + 1, _, by omega, by go_num, HS5.out, HF.out.next hlt⟩
              | ((repeat apply Exists.intro); refine ⟨?_, rfl⟩; exact ⟨k + 1, _, by omega, by go_num, HS5.out, HF.out.next hlt⟩)
          case measure => simp [intOf]; omega
        · obtain rfl : k = b := by omega
          go_wp2_with fail
          refine (cell_any _ _).mono ?_
          rintro e w4 ⟨rfl, hb4⟩
          have HS4 := hide (HS.out.below hb4)
          clear hb4
          go_wp2_with fail
          refine (HS4.out.put _).mono ?_
          rintro e w5 ⟨-, h5⟩
          obtain ⟨rfl, hS5⟩ := h5 (by rw [HF.out.ff hk, HF.out.1])
          have HS5 := hide hS5
          clear h5 hS5
          go_wp2_with fail
          refine HS5.out.len.mono ?_
          rintro e w5' ⟨rfl, rfl⟩
          rw [HF.out.count]
          have HP := hide HF.out.part
          clear HF HS HS4 HS3
          go_wp2
          go_loopw [13] (fun i wr => ∃ (j : Nat) (m : List (Option Cl)), j ≤ len ∧ i = .int .i64 j ∧ St w wr B m ∧ Hid (Part m k)) (fun i _ => len - (intOf i).toNat)
          case atStart => exact ⟨0, _, by omega, rfl, HS5.out, HP.out⟩
          case round =>
            obtain ⟨j, m1, hj, rfl, hS, HQ⟩ := hrel
            have HS := hide hS
            clear hS HP HS5
            by_cases hjl : j < len
            · obtain ⟨x, hx, hc⟩ := HV.out j hjl
              have hc' : wr.cell? (x.add j) = some (.int .i64 (z.getD j 0)) := by rw [HS.out.bel.cell (World.block_lt_of_cell? w _ hc)]; exact hc
              generalize z.getD j 0 = y at *
              subst hx
              clear hc
              go_wp2_with fail
              refine (HS.out.drop _).mono ?_
              rintro e w6 ⟨v, m', rfl, hS6, h6⟩
              have HQ6 : Hid (Part m' k) := by
                rcases h6 with ⟨_, rfl, _⟩ | ⟨q, x, _, _, rfl, _⟩
                · exact HQ
                · exact HQ.out.set q
              have HS6 := hide hS6
              clear h6 hS6
              go_wp2
              go_roundw
              case rel =>
                first
                  | exact ⟨j + 1, _, by omega, by go_num, HS6.out, HQ6⟩
                  | ((repeat apply Exists.intro); refine ⟨?_, rfl⟩; exact ⟨j + 1, _, by omega, by go_num, HS6.out, HQ6⟩)
              case measure => simp [intOf]; omega
            · go_wp2_with fail
              refine (HS.out.next 0).mono ?_
              rintro e w6 ⟨rfl, h6⟩
              have HN6 : Hid (∃ i : Int, e = .returned (.int .i64 i) ∧ ((∃ q : Nat, i = q ∧ IsNext m1 0 q) ∨ (i = -1 ∧ NoNext m1 0))) := by
                rcases h6 with ⟨q, h1, h2⟩ | ⟨h1, h2⟩
                · exact ⟨q, h1, .inl ⟨q, rfl, h2⟩⟩
                · exact ⟨-1, h1, .inr ⟨rfl, h2⟩⟩
              obtain ⟨i6, rfl, h6'⟩ := HN6.out
              have HN7 := hide h6'
              clear h6 h6' HN6
              go_wp2
              go_loopw [14] (fun i wr => ∃ (s : Nat) (q : Int) (m : List (Option Cl)), i = .int .i64 q ∧ St w wr B m ∧ Hid (Part m k) ∧ Hid (Low m s) ∧ Hid ((∃ q' : Nat, q = q' ∧ IsNext m s q') ∨ (q = -1 ∧ NoNext m s))) (fun i _ => meas k i)
              case atStart => exact ⟨0, i6, m1, rfl, HS.out, HQ, fun j hj => by omega, HN7.out⟩
              case round =>
                obtain ⟨s, q, m2, rfl, hS7, HP7, HL7, H7⟩ := hrel
                have HS7 := hide hS7
                clear hS7 HS HQ HN7
                rcases H7.out with ⟨q, rfl, h8⟩ | ⟨rfl, h8⟩
                · obtain ⟨x, hx⟩ := h8.2.1
                  have hqk : q < k := by rw [← HP7.out.1]; exact (List.getElem?_eq_some_iff.1 hx).1
                  have hxq := HP7.out.2 q x hx
                  subst hxq
                  have HX := hide hx
                  have H8 := hide h8
                  have hd9 : decide ((k : Int) ≤ (q : Int)) = false := by simp; omega
                  clear hx h8 H7
                  go_wp2_with fail
                  refine (HS7.out.drop _).mono ?_
                  rintro e w8 ⟨v, m', rfl, hS8, h9⟩
                  have h10 : m' = m2.set q none ∧ v = .tuple #[(cl (q : Int)).val, .bool true] := by
                    rcases h9 with ⟨h9, _⟩ | ⟨q', x, h0, hx', rfl, rfl⟩
                    · rw [look_nat, HX.out] at h9; cases h9
                    · obtain rfl : q = q' := by omega
                      rw [HX.out] at hx'; cases hx'
                      exact ⟨rfl, rfl⟩
                  obtain ⟨rfl, rfl⟩ := h10
                  have HS8 := hide hS8
                  have HC := hide (fun w => cell_any w (q : Int))
                  have h26 := eq26
                  clear hS8 h9
                  simp only [Cl.val] at *
                  generalize hcl' : cl (q : Int) = c at *
                  have HCL := hide hcl'
                  clear hcl'
                  go_wp2_with fail
                  go_region_with (go_at_call 12; refine (HC.out _).mono ?_; rintro e w9 ⟨rfl, hb9⟩; have k0 := hb9.cell (p := ⟨w8.heap.size, 0, none⟩) (by simp); have k1 := hb9.cell (p := ⟨w8.heap.size, 1, none⟩) (by simp); have k2 := hb9.cell (p := ⟨w8.heap.size, 2, none⟩) (by simp))
                  all_goals
                    have HS9 : Hid (St w w9 B (m2.set q none)) := St.below (St.below HS8.out ((Below.refl _ _).alloc (Nat.le_refl _) _).drew) hb9
                    clear k0 k1 k2 hb9 h26
                    go_wp2_with fail
                    refine (HS9.out.next _).mono ?_
                    rintro e w10 ⟨rfl, h10⟩
                    have h11 : ∃ i : Int, e = .returned (.int .i64 i) ∧ ((∃ q' : Nat, i = q' ∧ IsNext (m2.set q none) (q + 1) q') ∨ (i = -1 ∧ NoNext (m2.set q none) (q + 1))) := by
                      rcases h10 with ⟨q', h1, h2⟩ | ⟨h1, h2⟩
                      · exact ⟨q', h1, .inl ⟨q', rfl, h2⟩⟩
                      · exact ⟨-1, h1, .inr ⟨rfl, h2⟩⟩
                    obtain ⟨i10, rfl, h12⟩ := h11
                    have H12 := hide h12
                    clear h10 h12
                    go_wp2
                    go_roundw
                    case rel =>
                      first
                        | exact ⟨q + 1, i10, _, rfl, HS9.out, HP7.out.set q, HL7.out.step H8.out, H12.out⟩
                        | ((repeat apply Exists.intro); refine ⟨?_, rfl⟩; exact ⟨q + 1, i10, _, rfl, HS9.out, HP7.out.set q, HL7.out.step H8.out, H12.out⟩)
                    case measure =>
                      exact meas_next hqk (H12.out.imp (fun ⟨q', h1, h2⟩ => ⟨q', h1, h2.1⟩) (fun h => h.1))
                · have HE : Hid (St w wr B (List.replicate k none)) := by
                    have := Low.empty HL7.out h8 HP7.out.1
                    rw [← this]; exact HS7.out
                  clear H7 HS7 HP7 HL7 h8
                  go_wp2_with fail
                  refine HE.out.len.mono ?_
                  rintro e w11 ⟨rfl, rfl⟩
                  rw [count_none]
                  go_wp2
                  go_roundw
                  case rel =>
                    first
                      | exact ⟨r + 1, by have := HR2.out; omega, by go_num, HE.out⟩
                      | ((repeat apply Exists.intro); refine ⟨?_, rfl⟩; exact ⟨r + 1, by have := HR2.out; omega, by go_num, HE.out⟩)
                  case measure => have := HR2.out; simp [intOf]; omega
    · have HS3 := hide hS3
      clear hS3
      have hdr : decide ((r : Int) < 2) = false := by simp; omega
      go_wp2
      go_ret
      exact ⟨rfl, HS3.out.bel⟩
end Go.Proofs.Ytooikfmebjohfaa
