import Derived.Test.YteloomlcaimlaabRows
import Derived.Test.YteloomlcaimlaabA1
import Derived.WalkKit
import Derived.Handy
import Derived.WalkSpells
import Derived.WalkLawsBesides
import Derived.DataElems
import Derived.Deep.RegionLaw
import Derived.Deep.WholeRow
import Derived.Deep.MidRow
import Derived.Laws.OwnMore
import Derived.Laws.AppendOwnNone
import Derived.Laws.CopyOwn
import Derived.Laws.BytesArg
import Derived.BigQuiet
import Derived.Deep.Cut
import Derived.MapKept
import Derived.Laws.BitsAllLaws
import Derived.Laws.Cover2
import Derived.Below
namespace Go.Proofs.Yteloomlcaimlaab
open Go.RowKit

theorem hide {p : Prop} (h : p) : Hid p := h
/-- a byte -/
def By (n : Nat) : Value := .int .u8 (n : Int)
/-- v is a slice whose elements read zs in w, in a block below B -/
def Rb (w : World) (B : Nat) (v : Value) (zs : List Nat) : Prop :=
  (v = .slice none 0 0 ∧ zs = []) ∨ ∃ x cap, v = .slice (some x) zs.length cap ∧ zs.length ≤ cap ∧ ∀ i u, (zs.map By)[i]? = some u → x.block < B ∧ w.cell? (x.add i) = some u
/-- v is a slice of the call's own -/
def Ow (w : World) (base : Nat) (v : Value) (zs : List Nat) : Prop := w.ownsRow base 5 1 v zs.length (zs.map By)
/-- bytes -/
def Bys (zs : List Nat) : Prop := ∀ n ∈ zs, n < 256
theorem By_one (zs : List Nat) : ∀ u ∈ zs.map By, u.oneCell' = true := by
  intro u hu; simp at hu; obtain ⟨n, _, rfl⟩ := hu; rfl
theorem add0 (g j : Nat) : (⟨g, 0, none⟩ : Addr).add j = ⟨g, j, none⟩ := by unfold Addr.add; split <;> simp_all
theorem blk_add (a : Addr) (i : Nat) : (a.add i).block = a.block := by unfold Addr.add; split <;> rfl
theorem Bys.get {zs : List Nat} (h : Bys zs) (i : Nat) : zs.getD i 0 < 256 := by
  rw [List.getD_eq_getElem?_getD]
  cases e : zs[i]? with
  | none => simp
  | some c => exact h c (List.mem_of_getElem? e)
theorem Bys.cut {zs : List Nat} (h : Bys zs) (i j : Nat) : Bys (cut zs i j) := fun c hc => h c (List.mem_of_mem_take (List.mem_of_mem_drop hc))
theorem Bys.drop {zs : List Nat} (h : Bys zs) (i : Nat) : Bys (zs.drop i) := fun c hc => h c (List.mem_of_mem_drop hc)
theorem Bys.nil : Bys [] := fun _ h => by cases h
theorem Bys.app {zs ys : List Nat} (h : Bys zs) (h' : Bys ys) : Bys (zs ++ ys) := fun c hc => by
  rcases List.mem_append.1 hc with h1 | h1
  · exact h c h1
  · exact h' c h1
theorem Rb.len {w : World} {B : Nat} {v : Value} {zs : List Nat} (h : Rb w B v zs) : ∃ ao cap, v = .slice ao zs.length cap ∧ zs.length ≤ cap := by
  rcases h with ⟨rfl, rfl⟩ | ⟨x, cap, rfl, h1, _⟩
  · exact ⟨_, _, rfl, Nat.le_refl _⟩
  · exact ⟨_, _, rfl, h1⟩
theorem Rb.some_of {w : World} {B : Nat} {ao : Option Addr} {n cap : Nat} {zs : List Nat} (h : Rb w B (.slice ao n cap) zs) (hp : 0 < zs.length) : ∃ x, ao = some x ∧ x.block < B ∧ ∀ i, i < zs.length → w.cell? (x.add i) = some (.int .u8 (zs.getD i 0 : Nat)) := by
  rcases h with ⟨_, rfl⟩ | ⟨x, cap', h0, h1, h2⟩
  · simp at hp
  · have hg : ∀ i, i < zs.length → (zs.map By)[i]? = some (By (zs.getD i 0)) := fun i hi => by
      simp [List.getD_eq_getElem?_getD, List.getElem?_eq_getElem hi]
    refine ⟨x, by simp at h0; exact h0.1, (h2 0 _ (hg 0 hp)).1, fun i hi => (h2 i _ (hg i hi)).2⟩
theorem drewN_below (w : World) (B n : Nat) : Below B w (w.drewN n) := ⟨rfl, rfl, rfl, Nat.le_refl _, fun _ _ => rfl⟩
theorem Rb.keep {w w' : World} {B : Nat} {v : Value} {zs : List Nat} (h : Rb w B v zs) (hb : Below B w w') : Rb w' B v zs := by
  rcases h with ⟨rfl, rfl⟩ | ⟨x, cap, rfl, h1, h2⟩
  · exact .inl ⟨rfl, rfl⟩
  · refine .inr ⟨_, _, rfl, h1, fun i u hu => ⟨(h2 i u hu).1, ?_⟩⟩
    rw [hb.cell (by rw [blk_add]; exact (h2 i u hu).1)]
    exact (h2 i u hu).2
theorem Rb.mono {w : World} {B B' : Nat} {v : Value} {zs : List Nat} (h : Rb w B v zs) (hb : B ≤ B') : Rb w B' v zs := by
  rcases h with ⟨rfl, rfl⟩ | ⟨x, cap, rfl, h1, h2⟩
  · exact .inl ⟨rfl, rfl⟩
  · exact .inr ⟨_, _, rfl, h1, fun i u hu => ⟨Nat.lt_of_lt_of_le (h2 i u hu).1 hb, (h2 i u hu).2⟩⟩
/-- a part of it -/
theorem Rb.sub {w : World} {B : Nat} {x : Addr} {n cap : Nat} {zs : List Nat} (h : Rb w B (.slice (some x) n cap) zs) {lo hi : Nat} (h1 : lo ≤ hi) (h2 : hi ≤ zs.length) (d c : Nat) (hd : d = hi - lo) (hc : d ≤ c) :
    Rb w B (.slice (some (x.add lo)) d c) (cut zs lo hi) := by
  rcases h with ⟨h0, _⟩ | ⟨x', cap', h0, h3, h4⟩
  · cases h0
  · cases h0
    have hl := cut_len h1 h2
    subst hd
    refine .inr ⟨x.add lo, c, by rw [hl], by omega, fun i u hu => ?_⟩
    have e : (zs.map By)[lo + i]? = some u := by
      rw [← hu]
      have hi' : i < (cut zs lo hi).length := by
        rcases Nat.lt_or_ge i (cut zs lo hi).length with h | h
        · exact h
        · rw [List.getElem?_eq_none (by simp; omega)] at hu; cases hu
      simp [cut, List.getElem?_drop, List.getElem?_take]
      omega
    rw [blk_add, Addr.add_add]
    exact h4 _ _ e
theorem Ow.rb {w : World} {base : Nat} {v : Value} {zs : List Nat} (h : Ow w base v zs) : Rb w w.heap.size v zs := by
  have h' := h
  obtain ⟨hl, ⟨rfl, h0⟩ | ⟨g, cap, cur, rfl, hb, hg, hn, hm, hs, ht⟩⟩ := h
  · exact .inl ⟨rfl, List.eq_nil_of_length_eq_zero h0⟩
  · exact .inr ⟨_, cap, rfl, hn, fun i u hu => ⟨(World.ownsRow.lt h' g rfl).2, World.ownsRow.cells h' rfl i u hu⟩⟩
theorem Ow.keep {w w' : World} {base B : Nat} {v : Value} {zs : List Nat} (h : Ow w base v zs) (hb : Below B w w') (hB : w.heap.size ≤ B) : Ow w' base v zs := by
  have h' := h
  obtain ⟨hl, ⟨rfl, h0⟩ | ⟨g, cap, cur, rfl, hbs, hg, hn, hm, hs, ht⟩⟩ := h
  · exact ⟨hl, .inl ⟨rfl, h0⟩⟩
  · have hlt := (World.ownsRow.lt h' g rfl).2
    exact ⟨hl, .inr ⟨g, cap, cur, rfl, hbs, by rw [hb.block g (by omega)]; exact hg, hn, hm, hs, ht⟩⟩
theorem Ow.mono {w : World} {base base' : Nat} {v : Value} {zs : List Nat} (h : Ow w base v zs) (hb : base' ≤ base) : Ow w base' v zs := by
  obtain ⟨hl, ⟨rfl, h0⟩ | ⟨g, cap, cur, rfl, hbs, hg, hn, hm, hs, ht⟩⟩ := h
  · exact ⟨hl, .inl ⟨rfl, h0⟩⟩
  · exact ⟨hl, .inr ⟨g, cap, cur, rfl, by omega, hg, hn, hm, hs, ht⟩⟩
theorem Ow.len {w : World} {base : Nat} {v : Value} {zs : List Nat} (h : Ow w base v zs) : ∃ ao cap, v = .slice ao zs.length cap ∧ zs.length ≤ cap := h.rb.len
theorem own_shape {w : World} {base : Nat} {e : TypeId} {size : Nat} {v : Value} {n : Nat} {xs : List Value} (h : w.ownsRow base e size v n xs) : ∃ a c, v = .slice a n c := by
  rcases h.2 with ⟨h1, h2⟩ | ⟨g, cap, cur, h1, _⟩
  · exact ⟨none, 0, by rw [h1, h2]⟩
  · exact ⟨_, _, h1⟩
theorem info5' : ∃ i, Try.prog.info? 5 = some i ∧ i.zero = some (.int .u8 0) ∧ i.size = 1 ∧ i.bytes = 1 := info_parts (by kernel_rfl)
theorem eqN (a b : Nat) (h : a = b) : ((a : Int) == (b : Int)) = true := by simp [h]
theorem neN (a b : Nat) (h : a ≠ b) : ((a : Int) == (b : Int)) = false := by simp; omega
theorem wi (a : Int) (h1 : -9223372036854775808 ≤ a) (h2 : a ≤ 9223372036854775807) : IntKind.i64.wrap a = a := by
  simp [IntKind.wrap, IntKind.signed, IntKind.bits]; omega
theorem wu (p : Nat) (h : p < 4294967296) : IntKind.u32.wrap (p : Int) = p := by
  simp [IntKind.wrap, IntKind.signed, IntKind.bits]; omega
theorem wb (p : Nat) (h : p < 256) : IntKind.u8.wrap (p : Int) = p := by
  simp [IntKind.wrap, IntKind.signed, IntKind.bits]; omega
theorem or_add (a b k : Nat) (h : a < 2 ^ k) : a ||| (b * 2 ^ k) = a + b * 2 ^ k := by
  have := Nat.two_pow_add_eq_or_of_lt h b
  rw [Nat.or_comm, Nat.mul_comm b, ← this, Nat.add_comm]
theorem or32 (a b k m : Nat) (hm : 2 ^ k = m) (h : a < m) (h2 : a + b * m < 4294967296) : bits .or .u32 (a : Int) ((b : Int) * (m : Nat)) = ((a + b * m : Nat) : Int) := by
  subst hm
  have e : (b : Int) * ((2 ^ k : Nat) : Int) = ((b * 2 ^ k : Nat) : Int) := by rw [Int.natCast_mul]
  rw [e, u32_or_nat _ _ (by omega) (by omega), or_add a b k h]
theorem or_four (p0 p1 p2 p3 : Nat) (b0 : p0 < 256) (b1 : p1 < 256) (b2 : p2 < 256) (b3 : p3 < 256) :
    bits .or .u32 (bits .or .u32 (bits .or .u32 (p0 : Int) ((p1 : Int) * 256)) ((p2 : Int) * 65536)) ((p3 : Int) * 16777216) = ((p0 + 256 * p1 + 65536 * p2 + 16777216 * p3 : Nat) : Int) := by
  have e1 := or32 p0 p1 8 256 rfl (by omega) (by omega)
  have e2 := or32 (p0 + p1 * 256) p2 16 65536 rfl (by omega) (by omega)
  have e3 := or32 (p0 + p1 * 256 + p2 * 65536) p3 24 16777216 rfl (by omega) (by omega)
  rw [show ((256 : Nat) : Int) = 256 from rfl] at e1
  rw [show ((65536 : Nat) : Int) = 65536 from rfl] at e2
  rw [show ((16777216 : Nat) : Int) = 16777216 from rfl] at e3
  rw [e1, e2, e3]
  omega
section
variable (w : World)
set_option maxHeartbeats 1000000 in
theorem agree_any (v : Value) (b : List Nat) (x y m B : Nat) (hv : Rb w B v b) (hl : b.length < 9223372036854775807) (hx : x + m ≤ b.length) (hy : y + m ≤ b.length) :
    Calls Try.prog 28 #[v, .int .i64 (x : Nat), .int .i64 (y : Nat), .int .i64 (m : Nat)] w fun e w' => e = .returned (.int .i64 (agr b x y m : Nat)) ∧ Below w.heap.size w w' := by
  have HV := hide hv
  obtain ⟨ao, cap, rfl, hcap⟩ := hv.len
  have hm := agr_le b m x y
  have HA := hide (agr_at b m x y)
  have HN := hide (agr_no b m x y)
  generalize agr b x y m = r at *
  obtain ⟨n, hn⟩ : ∃ n, b.length = n := ⟨_, rfl⟩
  have HLn := hide hn
  clear hv
  rw [hn] at hl hx hy hcap HV ⊢
  clear hn
  go_enter Try.func28, Try.ntmps28
  go_wp2
  go_loopw [9] (fun i wr => ∃ k : Nat, k ≤ r ∧ i = .int .i64 (k : Nat) ∧ Below w.heap.size w wr) (fun i _ => r - (intOf i).toNat)
  case atStart => exact ⟨0, by omega, rfl, Below.refl _ _⟩
  case round =>
    obtain ⟨k, hk, rfl, hb⟩ := hrel
    by_cases hkm : k < m
    · obtain ⟨a, rfl, _, hc⟩ := HV.out.some_of (by rw [HLn.out]; omega)
      have hc1 := hc (x + k) (by rw [HLn.out]; omega)
      have hc2 := hc (y + k) (by rw [HLn.out]; omega)
      have hb1 := World.block_lt_of_cell? w _ hc1
      have hb2 := World.block_lt_of_cell? w _ hc2
      rw [← hb.cell hb1] at hc1
      rw [← hb.cell hb2] at hc2
      have HK : Hid (b.getD (x + k) 0 = b.getD (y + k) 0 ↔ k < r) := hide ⟨fun h => by
        rcases Nat.lt_or_ge k r with h1 | h1
        · exact h1
        · obtain rfl : k = r := by omega
          exact absurd h (HN.out hkm), HA.out k⟩
      generalize b.getD (x + k) 0 = p at *
      generalize b.getD (y + k) 0 = q at *
      clear hc HA HN HV
      by_cases hr : k < r
      · have he := eqN p q (HK.out.2 hr)
        clear HK
        go_upto_region 2 with fail
        go_quiet (fail)
        go_wp2
        go_roundw
        case rel => exact ⟨k + 1, by omega, by go_num, hb.trans (drewN_below _ _ _)⟩
        case measure => simp [intOf]; omega
      · have he := neN p q (fun h => hr (HK.out.1 h))
        obtain rfl : k = r := by omega
        clear HK
        go_upto_region 2 with fail
        go_quiet (fail)
        go_wp2
        go_ret
        exact ⟨rfl, hb.trans (drewN_below _ _ _)⟩
    · obtain rfl : k = r := by omega
      have hd : decide ((k : Int) < (m : Int)) = false := by simp; omega
      go_upto_region 2 with fail
      go_quiet (fail)
      go_wp2
      go_ret
      exact ⟨rfl, hb.trans (drewN_below _ _ _)⟩
set_option maxHeartbeats 1000000 in
theorem fourAt_any (v : Value) (b : List Nat) (x B : Nat) (hv : Rb w B v b) (hy : Bys b) (hl : b.length < 9223372036854775807) (hx : x + 4 ≤ b.length) :
    Calls Try.prog 23 #[v, .int .i64 (x : Nat)] w fun e w' => e = .returned (.int .u32 (four (b.drop x) : Nat)) ∧ Below w.heap.size w w' := by
  have HV := hide hv
  obtain ⟨ao, cap, rfl, hcap⟩ := hv.len
  obtain ⟨a, rfl, _, hc⟩ := hv.some_of (by omega)
  obtain ⟨y1, e1⟩ : ∃ y, x + 1 = y := ⟨_, rfl⟩
  obtain ⟨y2, e2⟩ : ∃ y, x + 2 = y := ⟨_, rfl⟩
  obtain ⟨y3, e3⟩ : ∃ y, x + 3 = y := ⟨_, rfl⟩
  have c0 := hc x (by omega)
  have c1 := hc y1 (by omega)
  have c2 := hc y2 (by omega)
  have c3 := hc y3 (by omega)
  have b0 := hy.get x
  have b1 := hy.get y1
  have b2 := hy.get y2
  have b3 := hy.get y3
  have HF : Hid (four (b.drop x) = b.getD x 0 + 256 * b.getD y1 0 + 65536 * b.getD y2 0 + 16777216 * b.getD y3 0) := hide (by
    subst e1 e2 e3
    unfold four
    simp [List.getD_eq_getElem?_getD])
  generalize four (b.drop x) = F at *
  generalize b.getD x 0 = p0 at *
  generalize b.getD y1 0 = p1 at *
  generalize b.getD y2 0 = p2 at *
  generalize b.getD y3 0 = p3 at *
  generalize b.length = n at *
  clear hc hv HV hy
  have i0 : (x : Int) < n := by omega
  have i1 : (y1 : Int) < n := by omega
  have i2 : (y2 : Int) < n := by omega
  have i3 : (y3 : Int) < n := by omega
  have j1 : IntKind.i64.wrap ((x : Int) + 1) = y1 := by rw [wi _ (by omega) (by omega)]; omega
  have j2 : IntKind.i64.wrap ((x : Int) + 2) = y2 := by rw [wi _ (by omega) (by omega)]; omega
  have j3 : IntKind.i64.wrap ((x : Int) + 3) = y3 := by rw [wi _ (by omega) (by omega)]; omega
  clear e1 e2 e3
  have k0 := wu p0 (by omega)
  have k1 := wu p1 (by omega)
  have k2 := wu p2 (by omega)
  have k3 := wu p3 (by omega)
  go_enter Try.func23, Try.ntmps23
  go_upto_region 1 with fail
  go_quiet (fail)
  rw [or_four p0 p1 p2 p3 b0 b1 b2 b3, ← HF.out]
  go_wp2
  go_ret
  exact ⟨rfl, drewN_below _ _ _⟩
end
end Go.Proofs.Yteloomlcaimlaab
