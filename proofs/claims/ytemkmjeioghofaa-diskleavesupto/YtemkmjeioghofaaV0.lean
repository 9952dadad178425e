import Derived.Test.YtemkmjeioghofaaY0
namespace Go.Proofs.Ytemkmjeioghofaa
open Go.RowKit

theorem kept_last {M : Nat → List Nat} {Z : Nat → Int × Nat} {len : Nat} {p : Nat → Bool} {s : Nat} : ∀ n, n ≤ len →
    ((∀ j, j < n → p j = true → pl (Z j).1 ≠ s) → play M (keptTo p (puts Z len) n) s = M s) ∧
    (∀ m, m < n → p m = true → pl (Z m).1 = s → (∀ j, m < j → j < n → p j = true → pl (Z j).1 ≠ s) → play M (keptTo p (puts Z len) n) s = List.replicate 128 (Z m).2) := by
  intro n
  induction n with
  | zero => exact fun _ => ⟨fun _ => rfl, fun m hm => by omega⟩
  | succ n ih =>
    intro hn
    obtain ⟨h1, h2⟩ := ih (by omega)
    have hg : (puts Z len)[n]? = some (pl (Z n).1, List.replicate 128 (Z n).2) := by simp [puts, show n < len by omega]
    cases hp : p n
    · rw [keptTo_no hp]
      refine ⟨fun h => h1 (fun j hj => h j (by omega)), fun m hm hpm hs h => ?_⟩
      have : m ≠ n := fun e => by rw [e, hp] at hpm; cases hpm
      exact h2 m (by omega) hpm hs (fun j hj hj2 => h j hj (by omega))
    · rw [keptTo_yes hp hg, play_snoc]
      unfold upd
      refine ⟨fun h => ?_, fun m hm hpm hs h => ?_⟩
      · rw [if_neg (fun e => h n (by omega) hp e.symm)]
        exact h1 (fun j hj => h j (by omega))
      · by_cases e : m = n
        · subst e
          rw [if_pos hs.symm]
        · rw [if_neg (fun e' => h n (by omega) (by omega) hp e'.symm)]
          exact h2 m (by omega) hpm hs (fun j hj hj2 => h j hj (by omega))
theorem kept_count {Z : Nat → Int × Nat} {len k : Nat} {p : Nat → Bool} (hk : k < len) : (p k = true → (keptTo p (puts Z len) (k + 1)).length = (keptTo p (puts Z len) k).length + 1) ∧ (p k = false → (keptTo p (puts Z len) (k + 1)).length = (keptTo p (puts Z len) k).length) := by
  have hg : (puts Z len)[k]? = some (pl (Z k).1, List.replicate 128 (Z k).2) := by simp [puts, hk]
  exact ⟨fun h => by rw [keptTo_yes h hg]; simp, fun h => by rw [keptTo_no h]⟩
theorem kept_mono {p : Nat → Bool} {c : List (Nat × List Nat)} {k n : Nat} (h : k ≤ n) : (keptTo p c k).length ≤ (keptTo p c n).length := by
  induction n with
  | zero => obtain rfl : k = 0 := by omega
            exact Nat.le_refl _
  | succ n ih =>
    by_cases e : k = n + 1
    · rw [e]; exact Nat.le_refl _
    · refine Nat.le_trans (ih (by omega)) ?_
      show _ ≤ (if p n then keptTo p c n ++ (c[n]?).toList else keptTo p c n).length
      split
      · simp
      · exact Nat.le_refl _
set_option maxRecDepth 100000 in
set_option maxHeartbeats 400000 in
theorem among_any {w wr : World} (a : Option Addr) (len cap s : Nat) (Z : Nat → Int × Nat) (hl : len ≤ 1048576) (hZ : IsPuts w a len Z) (hb : Below w.heap.size w wr) :
    Calls Try.prog 33 #[.slice a len cap, .int .i64 (s : Int)] wr fun e w' => (e = .returned (.bool false) ∧ w' = wr ∧ ∀ j, j < len → ¬ pl (Z j).1 = s) ∨ (e = .returned (.bool true) ∧ w' = wr) := by
  have HZ := hide hZ
  clear hZ
  go_enter Try.func33, Try.ntmps33
  go_wp2
  go_loop [5] (fun i => ∃ k : Nat, k ≤ len ∧ i = .int .i64 (k : Int) ∧ Hid (∀ j, j < k → pl (Z j).1 ≠ s)) (fun i => len - (intOf i).toNat)
  case atStart => exact ⟨0, Nat.zero_le _, rfl, fun j hj => by omega⟩
  case round =>
    obtain ⟨k, hk, rfl, HK⟩ := hrel
    by_cases hlt : k < len
    · have hd1 : decide (k < len) = true := by simp; omega
      obtain ⟨x, hx, _, hp⟩ := HZ.out.at hlt
      subst hx
      obtain ⟨c0, _⟩ := hp _ hb
      obtain ⟨zk, hzk⟩ : ∃ zk, (Z k).1 = zk := ⟨_, rfl⟩
      rw [hzk] at c0
      clear hp
      go_wp2_with fail
      refine (place_any zk _).mono ?_
      rintro e w1 ⟨rfl, rfl⟩
      obtain ⟨pz, hpz⟩ : ∃ pz, pl zk = pz := ⟨_, rfl⟩
      rw [hpz]
      by_cases hs : pz = s
      · subst hs
        go_wp2
        go_ret
        exact .inr ⟨rfl, rfl⟩
      · have hd2 : decide ((pz : Int) = (s : Int)) = false := by simp; omega
        have hd3 : ((pz : Int) == (s : Int)) = false := by simp; omega
        have hd4 : decide (pz = s) = false := by simp; omega
        go_wp2
        refine ⟨⟨k + 1, by omega, by go_num, fun j hj => ?_⟩, by simp [intOf]; omega⟩
        by_cases e : j = k
        · subst e; rw [hzk, hpz]; exact hs
        · exact HK.out j (by omega)
    · obtain rfl : k = len := by omega
      go_wp2
      go_ret
      exact .inl ⟨rfl, rfl, HK.out⟩
/-- what lastKept tells -/
def LastIs (Z : Nat → Int × Nat) (p : Nat → Bool) (s n : Nat) (r : Int) : Prop :=
  (r = -1 ∧ ∀ j, j < n → p j = true → pl (Z j).1 ≠ s) ∨ ∃ m : Nat, r = (m : Int) ∧ m < n ∧ p m = true ∧ pl (Z m).1 = s ∧ ∀ j, m < j → j < n → p j = true → pl (Z j).1 ≠ s
theorem LastIs.up {Z : Nat → Int × Nat} {p : Nat → Bool} {s n : Nat} {r : Int} (h : LastIs Z p s n r) (hn : p n = true → pl (Z n).1 ≠ s) : LastIs Z p s (n + 1) r := by
  rcases h with ⟨h1, h2⟩ | ⟨m, h1, h2, h3, h4, h5⟩
  · exact .inl ⟨h1, fun j hj hp => by by_cases e : j = n; subst e; exact hn hp; exact h2 j (by omega) hp⟩
  · exact .inr ⟨m, h1, by omega, h3, h4, fun j hj hj2 hp => by by_cases e : j = n; subst e; exact hn hp; exact h5 j hj (by omega) hp⟩
theorem LastIs.far {Z : Nat → Int × Nat} {p : Nat → Bool} {s n m : Nat} {r : Int} (h : LastIs Z p s n r) (hnm : n ≤ m) (hp : ∀ j, n ≤ j → p j = false) : LastIs Z p s m r := by
  rcases h with ⟨h1, h2⟩ | ⟨q, h1, h2, h3, h4, h5⟩
  · exact .inl ⟨h1, fun j hj hpj => by by_cases e : j < n; exact h2 j e hpj; rw [hp j (by omega)] at hpj; cases hpj⟩
  · exact .inr ⟨q, h1, by omega, h3, h4, fun j hj hj2 hpj => by by_cases e : j < n; exact h5 j hj e hpj; rw [hp j (by omega)] at hpj; cases hpj⟩
set_option maxRecDepth 100000 in
set_option maxHeartbeats 1000000 in
theorem lastKept_any {w ws : World} (a : Option Addr) (len cap : Nat) (Z : Nat → Int × Nat) (kv : Value) (ks : List Bool) (i0 : Nat) (hl : len ≤ 1048576) (hZ : IsPuts w a len Z) (hK : RdB w kv ks) (hb : Below w.heap.size w ws) (hi0 : i0 < len) (hkl : ks.length ≤ 1048576) :
    Calls Try.prog 32 #[.slice a len cap, kv, .int .i64 (i0 : Int)] ws fun e w' => ∃ r : Int, e = .returned (.int .i64 r) ∧ Below ws.heap.size ws w' ∧ LastIs Z (kp ks) (pl (Z i0).1) len r := by
  obtain ⟨ak, ck, hkv⟩ := hK.len
  obtain ⟨nb, hnb⟩ : ∃ nb, ks.length = nb := ⟨_, rfl⟩
  rw [hnb] at hkv hkl
  subst hkv
  have HZ := hide hZ
  have HK := hide hK
  have HNB := hide hnb
  have HB := hide hb
  clear hZ hK hnb hb
  go_enter Try.func32, Try.ntmps32
  go_wp2
  go_loopw [7, 8] (fun r i wr => ∃ (k : Nat) (rr : Int), k ≤ len ∧ k ≤ nb ∧ i = .int .i64 (k : Int) ∧ r = .int .i64 rr ∧ LastIs Z (kp ks) (pl (Z i0).1) k rr ∧ Below ws.heap.size ws wr) (fun _ i _ => len - (intOf i).toNat)
  case atStart => exact ⟨0, -1, Nat.zero_le _, Nat.zero_le _, rfl, rfl, .inl ⟨rfl, fun j hj => by omega⟩, Below.refl _ _⟩
  case round =>
    obtain ⟨k, rr, hk, hkn, rfl, rfl, hL, hbel⟩ := hrel
    by_cases hlt : k < len ∧ k < nb
    · obtain ⟨hlt, hlt2⟩ := hlt
      have hd1 : decide (k < len) = true := by simp; omega
      have hd2 : decide (k < nb) = true := by simp; omega
      have hbw : Below w.heap.size w wr := HB.out.trans (hbel.mono HB.out.size)
      obtain ⟨x, hx, _, hp⟩ := HZ.out.at hlt
      obtain ⟨x', hx', _, hp'⟩ := HZ.out.at hi0
      subst hx
      cases hx'
      obtain ⟨c0, _⟩ := hp _ hbw
      obtain ⟨c2, _⟩ := hp' _ hbw
      obtain ⟨xk, hxk, ck0⟩ : ∃ xk, ak = some xk ∧ wr.cell? (xk.add k) = some (.bool (kp ks k)) := by
        rcases HK.out.below hbw (Nat.le_refl _) with ⟨_, h2⟩ | ⟨xk, cc, h1, h2⟩
        · have := HNB.out; rw [h2] at this; simp at this; omega
        · simp at h1
          exact ⟨xk, h1.1, h2 k _ (by rw [List.getElem?_map]; unfold kp; rw [List.getD, List.getElem?_eq_getElem (by rw [HNB.out]; exact hlt2)]; rfl)⟩
      subst hxk
      obtain ⟨zk, hzk⟩ : ∃ zk, (Z k).1 = zk := ⟨_, rfl⟩
      obtain ⟨zi, hzi⟩ : ∃ zi, (Z i0).1 = zi := ⟨_, rfl⟩
      rw [hzk] at c0
      rw [hzi] at c2
      have HL := hide hL
      have HBE := hide hbel
      clear hp hp' hL hbel hbw
      cases hb : kp ks k
      · rw [hb] at ck0
        have HN := hide (HL.out.up (fun h => by rw [hb] at h; cases h))
        go_wp2
        go_region
        all_goals clear ck0 c0 c2
        all_goals go_wp2
        all_goals go_roundw
        all_goals first
          | exact ⟨k + 1, rr, by omega, by omega, by go_num, rfl, HN.out, HBE.out.drew⟩
          | (simp [intOf]; omega)
      · rw [hb] at ck0
        obtain ⟨pk, hpk⟩ : ∃ pk, pl zk = pk := ⟨_, rfl⟩
        obtain ⟨pi, hpi⟩ : ∃ pi, pl zi = pi := ⟨_, rfl⟩
        have hck := place_any zk
        have hci := place_any zi
        rw [hpk] at hck
        rw [hpi] at hci
        have HCK := hide hck
        have HCI := hide hci
        clear hck hci
        by_cases he : pk = pi
        · have HN : Hid (LastIs Z (kp ks) (pl (Z i0).1) (k + 1) (k : Int)) := .inr ⟨k, rfl, by omega, hb, by rw [hzk, hzi, hpk, hpi, he], fun j h1 h2 => by omega⟩
          subst he
          go_wp2
          go_region_held (fun W => W.cell? (xk.add k) = some (.bool true) ∧ W.cell? (x.add (k * 2)) = some (.int .i64 zk) ∧ W.cell? (x.add (i0 * 2)) = some (.int .i64 zi))
            (first | assumption | exact And.intro ck0 (And.intro c0 c2))
            (first
              | (go_at_call 12; refine (HCK.out _).mono ?_; rintro e w' ⟨rfl, rfl⟩)
              | (go_at_call 12; refine (HCI.out _).mono ?_; rintro e w' ⟨rfl, rfl⟩))
          all_goals clear ck0 c0 c2
          all_goals go_wp2
          all_goals go_roundw
          all_goals first
            | exact ⟨k + 1, (k : Int), by omega, by omega, by go_num, rfl, HN.out, HBE.out.drew⟩
            | (simp [intOf]; omega)
        · have HN := hide (HL.out.up (fun _ => by rw [hzk, hzi, hpk, hpi]; exact he))
          have hd3 : ((pk : Int) == (pi : Int)) = false := by simp; omega
          have hd4 : decide ((pk : Int) = (pi : Int)) = false := by simp; omega
          have hd5 : decide (pk = pi) = false := by simp; omega
          go_wp2
          go_region_held (fun W => W.cell? (xk.add k) = some (.bool true) ∧ W.cell? (x.add (k * 2)) = some (.int .i64 zk) ∧ W.cell? (x.add (i0 * 2)) = some (.int .i64 zi))
            (first | assumption | exact And.intro ck0 (And.intro c0 c2))
            (first
              | (go_at_call 12; refine (HCK.out _).mono ?_; rintro e w' ⟨rfl, rfl⟩)
              | (go_at_call 12; refine (HCI.out _).mono ?_; rintro e w' ⟨rfl, rfl⟩))
          all_goals clear ck0 c0 c2
          all_goals go_wp2
          all_goals go_roundw
          all_goals first
            | exact ⟨k + 1, rr, by omega, by omega, by go_num, rfl, HN.out, HBE.out.drew⟩
            | (simp [intOf]; omega)
    · have hfin : LastIs Z (kp ks) (pl (Z i0).1) len rr := by
        by_cases e : k = len
        · rw [← e]; exact hL
        · have hkn2 : k = nb := by omega
          exact hL.far (by omega) (fun j hj => by unfold kp; rw [List.getD, List.getElem?_eq_none (by rw [HNB.out]; omega)]; rfl)
      have HF := hide hfin
      clear hfin hL
      by_cases e : k = len
      · subst e
        have hd1 : decide (k < k) = false := by simp
        go_wp2
        go_ret
        exact ⟨rr, rfl, hbel, HF.out⟩
      · have hd1 : decide (k < len) = true := by simp; omega
        have hd2 : decide (k < nb) = false := by simp; omega
        go_wp2
        go_ret
        exact ⟨rr, rfl, hbel, HF.out⟩
end Go.Proofs.Ytemkmjeioghofaa
