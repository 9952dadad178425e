import Derived.Test.YtclbgmkodjiapaaA5
namespace Go.Proofs.Ytclbgmkodjiapaa
open Go.RowKit

theorem infoG : ∃ i, Try.prog.info? 36 = some i ∧ i.zero = some (.agg #[.int .i64 0, .int .i64 0]) ∧ i.size = 2 ∧ i.bytes = 16 := info_parts (by kernel_rfl)
theorem nextR_at (w : World) (F : Nat → Prop) (R : Nat) (m : List (Option Int)) (h : Ref w F R m) (i : Int) :
    Calls Try.prog 25 #[.pointer (some ⟨R, 0, none⟩), .int .i64 i] w fun x w' => ∃ q : Int, x = .returned (.int .i64 q) ∧ At m i.toNat q ∧ w' = w := by
  refine (nextR_any w F R m h i).mono ?_
  rintro x w' ⟨rfl, ⟨k, rfl, h⟩ | ⟨rfl, h⟩⟩
  · exact ⟨k, rfl, .inl ⟨k, rfl, h⟩, rfl⟩
  · exact ⟨-1, rfl, .inr ⟨rfl, h⟩, rfl⟩
set_option maxRecDepth 8000 in
set_option maxHeartbeats 3200000 in
theorem ranged_any (w0 w : World) (G : Nat → Prop) (R : Nat) (m : List (Option Int)) (h : Ref w G R m) (a1 : Option Addr) (len cap : Nat) (Z : Nat → Int × Int × Int × Int) (hlen : len ≤ maxLen) (hZ : IsQuads w0 a1 len Z) (hb : Below w0.heap.size w0 w) (hG : ∀ b, G b → w0.heap.size ≤ b) :
    Calls Try.prog 7 #[.pointer (some ⟨R, 0, none⟩), .slice a1 len cap] w fun x w' => ∃ v L m', x = .returned v ∧ Runs (rnd Z len m) (fun j => leaveTo Z (j : Nat) len) L ∧ Rg w w' G R m' v L.length L ∧ L.length ≤ 4096 := by
  obtain ⟨i3, hi, hz, hs3, hb3⟩ := infoG
  have HZ := hide hZ
  have HR0 := hide h
  have HB := hide hb
  have HG := hide hG
  have hcap := h.cap
  clear hZ h hb hG
  go_enter Try.func7, Try.ntmps7
  go_wp2_with fail
  refine (nextR_at _ G R m HR0.out 0).mono ?_
  rintro e w1 ⟨q0, rfl, hq0, hw1⟩
  subst w1
  have HQ0 : Hid (At (rnd Z len m 0) 0 q0) := hide hq0
  have HS0 : Hid (Rg w w G R (rnd Z len m 0) (.slice none 0 0) 0 []) := hide ⟨HR0.out, HR0.out.lt, ⟨rfl, .inl ⟨rfl, rfl⟩⟩, fun x e => by simp [Value.ownBlock] at e, Mod.refl _ _⟩
  clear hq0
  go_wp2
  go_loopw [5, 6, 7] (fun v i n wr => ∃ (a2 : Option Addr) (c2 k : Nat) (q : Int) (s : Nat) (pre : List (Nat × Int)), v = .slice a2 k c2 ∧ i = .int .i64 q ∧ n = .int .i64 (k : Nat) ∧ k ≤ s ∧ s ≤ m.length ∧ Hid (k = pre.length) ∧ Hid (s = lp pre) ∧ Hid (Good (rnd Z len m) pre) ∧ Hid (∀ j, j < k → leaveTo Z (j : Nat) len = false) ∧ Hid (At (rnd Z len m k) s q) ∧ Hid (Rg w wr G R (rnd Z len m k) (.slice a2 k c2) k pre)) (fun _ i _ _ => meas m.length i)
  case atStart => exact ⟨none, 0, 0, q0, 0, [], rfl, rfl, rfl, by omega, by omega, rfl, rfl, Good.nil _, fun j hj => by omega, HQ0, HS0⟩
  case round =>
    obtain ⟨a2, c2, k, q, s, pre, rfl, rfl, rfl, hks, hsm, HK, HS, HGd, HLv, HA, HRg⟩ := hrel
    clear HQ0 HS0
    have HRl : Hid ((rnd Z len m k).length = m.length) := hide (rnd_len Z len m k)
    obtain ⟨mk, hmk⟩ : ∃ mk, rnd Z len m k = mk := ⟨_, rfl⟩
    rcases HA.out with ⟨p, rfl, hn1⟩ | ⟨rfl, hn1⟩
    · obtain ⟨x, hx⟩ := hn1.2.1
      have hpm : p < m.length := by rw [← HRl.out]; exact (List.getElem?_eq_some_iff.1 hx).1
      have hsp : s ≤ p := hn1.1
      have HNx : Hid (Nx (rnd Z len m k) s (p, x)) := hide ⟨hn1, hx⟩
      have HE : Hid (look mk (p : Int) = some x) := hide (by rw [look_nat, ← hmk, hx]; rfl)
      rw [hmk] at HRg
      have HMk := hide hmk
      clear hmk hn1 hx HA HRl
      generalize hml : m.length = nn at *
      have HML := hide hml
      clear hml
      go_wp2_with fail
      refine (getR_any _ G R mk HRg.out.ref p).mono ?_
      rintro e w2 ⟨rfl, rfl⟩
      rw [HE.out]
      simp only [Option.getD_some, Option.isSome_some]
      go_upto_region 8 with (at_builtin; refine wpList_append_own_at _ rfl _ _ 32 rfl 0 36 i3 (.agg #[.int .i64 0, .int .i64 0]) 2 16 Try.underlying32 hi hz hs3 hb3 rfl (by decide) (.slice a2 k c2) k (encG pre) rfl (HRg.out.row.alloc _) ⟨w2.heap.size, 0, none⟩ 1 1 [.int .i64 (p : Nat), .int .i64 x] rfl rfl (cell_two_new _ _ _ _) (by simp [Value.oneCell']) (by unfold maxLen; omega) (by omega) (by omega) ?_; intro v2 w8 ho8 hg8 _ hl8; obtain ⟨g2, k2, rfl⟩ := ownsRow_succ' ho8; have HRg8 := hide ((HRg.out.alloc _).app (x := (p, x)) ho8 hg8 hl8); clear ho8 hg8 hl8)
      have HB8 := hide (HB.out.trans (HRg8.out.mod.below HG.out HB.out.size))
      have HGd2 : Hid (Good (rnd Z len m) (pre ++ [(p, x)])) := hide (HGd.out.snoc (by rw [← HK.out, ← HS.out]; exact HNx.out))
      clear HRg HGd HNx HE
      go_wp2_with fail
      refine (acted_any w0 w8 G R mk HRg8.out.ref a1 len cap Z hlen HZ.out HB8.out HG.out (k : Nat)).mono ?_
      rintro e w9 ⟨rfl, hR9, hx9⟩
      have HRg9 : Hid (Rg w w9 G R (rnd Z len m (k + 1)) (.slice (some ⟨g2, 0, none⟩) (k + 1) k2) (k + 1) (pre ++ [(p, x)])) := hide (by
        have := HRg8.out.act hR9 hx9
        rw [← HMk.out] at this
        exact this)
      clear hR9 hx9 HRg8 HB8 HMk
      have HL2 : Hid ((pre ++ [(p, x)]).length = k + 1) := hide (by rw [HK.out]; simp)
      generalize hlb : leaveTo Z (k : Nat) len = lb
      have HLb := hide hlb
      clear hlb
      cases lb
      · have HLv2 : Hid (∀ j, j < k + 1 → leaveTo Z (j : Nat) len = false) := hide (fun j hj => by
          rcases Nat.lt_or_ge j k with h1 | h1
          · exact HLv.out j h1
          · obtain rfl : j = k := by omega
            exact HLb.out)
        go_wp2_with fail
        refine (nextR_at _ G R _ HRg9.out.ref ((p : Int) + 1)).mono ?_
        rintro e w10 ⟨q4, rfl, hq4, hw10⟩
        subst w10
        have HQ4 : Hid (At (rnd Z len m (k + 1)) (p + 1) q4) := hide hq4
        clear hq4
        go_wp2
        go_roundw
        case rel => exact ⟨some ⟨g2, 0, none⟩, k2, k + 1, q4, p + 1, pre ++ [(p, x)], rfl, rfl, by go_num, by omega, by omega, HL2.out.symm, (lp_snoc pre (p, x)).symm, HGd2, HLv2, HQ4, HRg9⟩
        case measure => exact meas_next (by omega) (HQ4.out.imp (fun ⟨q', h1, h2⟩ => ⟨q', h1, h2.1⟩) (fun h => h.1))
      · go_wp2
        go_ret
        refine ⟨_, pre ++ [(p, x)], _, rfl, ⟨HGd2.out, fun j hj => HLv.out j (by rw [HL2.out] at hj; omega), .inl ⟨k, HL2.out, HLb.out⟩⟩, by rw [HL2.out]; exact HRg9.out, by rw [HL2.out]; omega⟩
    · clear HA hmk
      have HN1 := hide hn1
      clear hn1
      generalize hml : m.length = nn at *
      have HML := hide hml
      clear hml
      go_wp2
      go_ret
      refine ⟨_, pre, _, rfl, ⟨HGd.out, fun j hj => HLv.out j (by rw [HK.out]; omega), .inr (by rw [← HK.out, ← HS.out]; exact HN1.out)⟩, by rw [← HK.out]; exact HRg.out, by rw [← HK.out]; omega⟩
end Go.Proofs.Ytclbgmkodjiapaa
