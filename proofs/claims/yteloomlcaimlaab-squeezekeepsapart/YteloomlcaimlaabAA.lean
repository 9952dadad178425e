import Derived.Test.YteloomlcaimlaabA9
namespace Go.Proofs.Yteloomlcaimlaab
open Go.RowKit
/-- a block that is no row of bytes stays -/
theorem Kp.cells {B : Nat} {w w' : World} (h : Kp B w w') {g : Nat} {cs : Array Value} {t : TypeId} {f : Nat × Nat} (hg : w.heap[g]? = some (.cells cs t f)) (ht : t ≠ 5) : w'.heap[g]? = some (.cells cs t f) := by
  rw [h.2 g (Array.getElem?_eq_some_iff.1 hg).1 (fun cur f' e => by rw [hg] at e; cases e; exact ht rfl)]
  exact hg
theorem cells3 {w : World} {g : Nat} {a b c : Value} {t : TypeId} (h : w.heap[g]? = some (.cells #[a, b, c] t (0, 0))) : w.cell? ⟨g, 0, none⟩ = some a ∧ w.cell? ⟨g, 1, none⟩ = some b ∧ w.cell? ⟨g, 2, none⟩ = some c :=
  ⟨by rw [cell_of_row _ _ _ _ _ _ h]; rfl, by rw [cell_of_row _ _ _ _ _ _ h]; rfl, by rw [cell_of_row _ _ _ _ _ _ h]; rfl⟩
theorem cpy_succ : ∀ (k : Nat) (pl : List Nat) (d : Nat), cpy pl d (k + 1) = cpy pl d k ++ [(cpy pl d k).getD ((cpy pl d k).length - d) 0]
  | 0, _, _ => rfl
  | k + 1, pl, d => by rw [cpy, cpy_succ k, cpy]
section
variable (w : World)
set_option maxRecDepth 100000 in
set_option maxHeartbeats 1000000 in
theorem join_any (pv qv : Value) (base : Nat) (pl p : List Nat) (x : Nat × Nat × Nat) (hO : Ow w base pv pl) (hP : Rb w base qv p) (hbase : base ≤ w.heap.size) (hx : tkn p = some x) (hd : x.2.2 ≤ pl.length) (hl : pl.length + x.2.1 ≤ 1000000) (hp : p.length ≤ 140737488351232) :
    Calls Try.prog 30 #[tkV x, pv, qv] w fun e w' => ∃ r, e = .returned r ∧ Ow w' base r (jn pl p x) ∧ Kp base w w' := by
  have hx2 := tkn_two hx
  obtain ⟨tk, mk, ds⟩ := x
  simp only at hx2 hd hl
  obtain ⟨g1, g2, g3, _, g5⟩ := hx2
  have HJ : Hid (jn pl p (tk, mk, ds) = if ds = 0 then pl ++ cut p 1 tk else cpy pl ds mk) := hide rfl
  generalize jn pl p (tk, mk, ds) = J at *
  have HO := hide hO
  have HP := hide hP
  obtain ⟨oa, ok, oc, rfl, HK, _⟩ := hO.len2
  obtain ⟨pa, pc, rfl, hpc⟩ := hP.len
  obtain ⟨n, hn⟩ : ∃ n, p.length = n := ⟨_, rfl⟩
  have HLn := hide hn
  rw [hn] at hpc HP g2 hp ⊢
  clear hn hO hP hx
  unfold tkV
  have HMk := hide (fun h : ds = 0 => g5 h)
  clear g5
  go_enter Try.func30, Try.ntmps30
  go_upto_region 1 with fail
  have hq := heap_alloc_last w (.cells #[.int .i64 (tk : Nat), .int .i64 (mk : Nat), .int .i64 (ds : Nat)] 47)
  have HKp := hide (al_kp hbase (.cells #[.int .i64 (tk : Nat), .int .i64 (mk : Nat), .int .i64 (ds : Nat)] 47))
  have HO1 := hide (HO.out.alloc (.cells #[.int .i64 (tk : Nat), .int .i64 (mk : Nat), .int .i64 (ds : Nat)] 47))
  generalize w.alloc (.cells #[.int .i64 (tk : Nat), .int .i64 (mk : Nat), .int .i64 (ds : Nat)] 47) = w1 at *
  have HP1 := hide (HP.out.keep HKp.out.1)
  obtain ⟨z0, z1, z2⟩ := cells3 hq
  have HQ := hide hq
  have hb1 := Nat.le_trans hbase HKp.out.1.size
  clear hq HO HP
  by_cases h0 : ds = 0
  · have HJ2 := hide (HJ.out.trans (if_pos h0))
    obtain ⟨y, rfl, _, _⟩ := HP1.out.some_of (by rw [HLn.out]; omega)
    have HC : Hid (Rb w1 base (.slice (some ⟨y.block, y.off + 1, none⟩) (tk - 1) (pc - 1)) (cut p 1 tk)) := hide (by
      have := HP1.out.sub (lo := 1) (hi := tk) (by omega) (by rw [HLn.out]; exact g2) (tk - 1) (pc - 1) rfl (by omega)
      simpa [Addr.add] using this)
    have hcl : (cut p 1 tk).length ≤ 1000000 := by rw [cut_len (by omega) (by rw [HLn.out]; exact g2)]; have := HMk.out h0; omega
    have i1 : (1 : Int) ≤ (tk : Int) := by omega
    have i2 : (tk : Int) ≤ (pc : Int) := by omega
    have hdz : ((ds : Int) == 0) = true := by simp; omega
    clear h0
    go_wp2_with (at_builtin; refine app_rd rfl _ _ rfl base _ pl rfl HO1.out hb1 _ _ (cut p 1 tk) rfl HC.out (by omega) ?_; intro r2 w2 ho2 hg2 hk2; obtain ⟨a2, k2, c2, rfl, HK2, _⟩ := ho2.len2)
    have HO2 := hide ho2
    have HK2' := hide (HKp.out.trans hk2)
    clear ho2 hg2 hk2
    go_wp2
    go_ret
    rw [HJ2.out]
    exact ⟨_, rfl, HO2.out, HK2'.out⟩
  · have HJ2 := hide (HJ.out.trans (if_neg h0))
    have hdz : ((ds : Int) == 0) = false := by simp; omega
    clear HMk HP1
    go_upto_region 4 with fail
    clear z0 z1 z2
    go_loopw [1, 18] (fun ov iv wr => ∃ (k : Nat), iv = .int .i64 (k : Nat) ∧ k ≤ mk ∧ Ow wr base ov (cpy pl ds k) ∧ Kp base w wr ∧ Hid (wr.heap[w.heap.size]? = some (.cells #[.int .i64 (tk : Nat), .int .i64 (mk : Nat), .int .i64 (ds : Nat)] 47 (0, 0)))) (fun _ iv _ => mk - (intOf iv).toNat)
    case atStart => exact ⟨0, rfl, Nat.zero_le _, HO1.out, HKp.out, HQ⟩
    case round =>
      obtain ⟨k, rfl, hk, hO, hK, HQr⟩ := hrel
      have HO := hide hO
      have HKr := hide hK
      obtain ⟨a1, k1, c1, rfl, HK1, _⟩ := hO.len2
      clear HO1 HKp HQ
      by_cases hlt : k < mk
      · have hkI : (k : Int) < (mk : Int) := by omega
        have hcl := cpy_len k pl ds
        rw [HK1.out] at hcl
        have hcz : (cpy pl ds k).length = k1 := HK1.out
        obtain ⟨y, rfl, _, hc⟩ := hO.rb.some_of (by rw [hcz]; omega)
        have hcr := hc (k1 - ds) (by rw [hcz]; omega)
        obtain ⟨z0, z1, z2⟩ := cells3 HQr.out
        have HS := hide (cpy_succ k pl ds)
        rw [hcz] at HS
        generalize (cpy pl ds k).getD (k1 - ds) 0 = c at *
        obtain ⟨j, hj⟩ : ∃ j, k1 - ds = j := ⟨_, rfl⟩
        rw [hj] at hcr
        have hjI : IntKind.i64.wrap ((k1 : Int) - (ds : Int)) = (j : Nat) := by rw [wi _ (by omega) (by omega)]; omega
        have hjI2 : (k1 : Int) - (ds : Int) = (j : Nat) := by omega
        have hj1 : (j : Int) < (k1 : Int) := by omega
        have hbr := Nat.le_trans hbase hK.1.size
        have hk1 : k1 ≤ 1000000 := by omega
        have HKz := hide hcz
        clear hO hK hc hcz hj hcl
        go_upto_region 6 with (at_builtin; refine app_rd rfl _ _ rfl base _ (cpy pl ds k) rfl (HO.out.alloc _) (by rw [al_size]; omega) _ _ [c] rfl (rb_one _ c) (by rw [HKz.out]; simp; omega) ?_; intro r2 w2 ho2 hg2 hk2; obtain ⟨a2, k2, c2, rfl, HK2, _⟩ := ho2.len2)
        have HO2 : Hid (Ow w2 base (.slice a2 k2 c2) (cpy pl ds (k + 1))) := hide (by rw [HS.out]; exact ho2)
        have HKa := hide ((al_kp hbr _).trans hk2)
        have HK3 := hide (HKr.out.trans HKa.out)
        have HQ3 : Hid (w2.heap[w.heap.size]? = some (.cells #[.int .i64 (tk : Nat), .int .i64 (mk : Nat), .int .i64 (ds : Nat)] 47 (0, 0))) := hide (HKa.out.cells HQr.out (by decide))
        clear ho2 hg2 hk2 HKa HO HKr HQr z0 z1 z2 hcr
        go_wp2
        go_roundw
        case rel => exact ⟨k + 1, by go_num, by omega, HO2.out, HK3.out, HQ3⟩
        case measure => simp [intOf]; omega
      · obtain rfl : k = mk := by omega
        clear hO hK
        go_wp2
        go_ret
        rw [HJ2.out]
        exact ⟨_, rfl, HO.out, HKr.out⟩
end
end Go.Proofs.Yteloomlcaimlaab
