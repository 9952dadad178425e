import Derived.Test.YtogpgchfaalikaaCX
namespace Go.Proofs.Ytogpgchfaalikaa
open Go.RowKit

def IsInts (w : World) (a : Option Addr) (len : Nat) (Z : Nat → Int) : Prop := ∀ k, k < len → ∃ x, a = some x ∧ w.cell? (x.add k) = some (.int .i64 (Z k))
theorem cell_belowN {w w' : World} (hb : Below w.heap.size w w') {p : Addr} {v : Value} (h : w.cell? p = some v) : w'.cell? p = some v := by
  have hl : p.block < w.heap.size := by
    unfold World.cell? at h
    cases hq : w.heap[p.block]? with
    | none => simp [hq] at h
    | some o => exact (Array.getElem?_eq_some_iff.1 hq).1
  have := hb.block p.block hl
  unfold World.cell? at h ⊢
  rw [this]; exact h
theorem IsInts.below {w w' : World} {a : Option Addr} {len : Nat} {Z : Nat → Int} (h : IsInts w a len Z) (hb : Below w.heap.size w w') : IsInts w' a len Z := by
  intro k hk
  obtain ⟨x, h1, h2⟩ := h k hk
  exact ⟨x, h1, cell_belowN hb h2⟩
/-- the sector that a number names -/
def pl (z : Int) : Nat := (z % 1024).toNat
theorem pl_lt (z : Int) : pl z < 1024 := by unfold pl; omega
theorem pl_rest (z : Int) : wrap64 ((IntKind.u64.wrap z).tmod 1024) = ((pl z : Nat) : Int) := by
  have e1 : IntKind.u64.wrap z = z % 18446744073709551616 := by simp [IntKind.wrap, IntKind.signed, IntKind.bits]
  have e2 : (z % 18446744073709551616).tmod 1024 = z % 18446744073709551616 % 1024 := Int.tmod_eq_emod_of_nonneg (by omega)
  rw [e1, e2]
  unfold pl wrap64
  omega
/-- the writes of a filled disk -/
def fil (Z : Nat → Int) (k : Nat) : List (Nat × List Nat) := (List.range k).map (fun j => (pl (Z j), List.replicate 128 ((j + 1) % 256)))
theorem fil_succ (Z : Nat → Int) (k : Nat) : fil Z (k + 1) = fil Z k ++ [(pl (Z k), List.replicate 128 ((k + 1) % 256))] := by simp [fil, List.range_succ]
theorem fil_len (Z : Nat → Int) (k : Nat) : (fil Z k).length = k := by simp [fil]
def zro : Nat → List Nat := fun _ => List.replicate 128 0
theorem D0_wait : D0 = wait zro [] 0 := rfl
theorem wrap8 (k : Nat) : IntKind.u8.wrap ((k : Int) + 1) = (((k + 1) % 256 : Nat) : Int) := by
  simp [IntKind.wrap, IntKind.signed, IntKind.bits]
set_option maxRecDepth 100000 in
set_option maxHeartbeats 1600000 in
theorem filled_any (w : World) (a : Option Addr) (len cap : Nat) (Z : Nat → Int) (hl : len ≤ 1048576) (hZ : IsInts w a len Z) :
    Calls Try.prog 19 #[.slice a len cap] w fun e w' => ∃ B F, e = .returned (dp B) ∧ DkA B (wait zro (fil Z len) len) w' F ∧ (∀ b, F b → w.heap.size ≤ b) ∧ Below w.heap.size w w' := by
  have HZ := hide hZ
  clear hZ
  go_enter Try.func19, Try.ntmps19
  go_wp2_with fail
  refine (new_any w).mono ?_
  rintro e1 w1 ⟨rfl, hD, hb1⟩
  have HD1 := hide hD
  have HB1 := hide hb1
  clear hD hb1
  have K0 : Hid (∃ F, DkA w.heap.size (wait zro (fil Z 0) 0) w1 F ∧ (∀ b, F b → w.heap.size ≤ b) ∧ Below w.heap.size w w1) := hide ⟨_, HD1.out, fun b hb => by rw [hb]; exact Nat.le_refl _, HB1.out⟩
  clear HD1 HB1
  go_wp2_with fail
  go_loopw [4] (fun x wr => ∃ k : Nat, k ≤ len ∧ x = .int .i64 (k : Int) ∧ Hid (∃ F, DkA w.heap.size (wait zro (fil Z k) k) wr F ∧ (∀ b, F b → w.heap.size ≤ b) ∧ Below w.heap.size w wr)) (fun x _ => len - (intOf x).toNat)
  case atStart => exact ⟨0, by omega, rfl, K0⟩
  case round =>
  clear K0
  obtain ⟨k, hk, rfl, K1⟩ := hrel
  by_cases hlt : k < len
  · have hd : decide ((k : Int) < (len : Int)) = true := by simp; omega
    obtain ⟨F, hD, hF, hB⟩ := K1.out
    obtain ⟨x, rfl, hx⟩ := HZ.out.below hB k hlt
    have HD := hide hD
    have HF := hide hF
    have HB := hide hB
    have e1 := pl_rest (Z k)
    have e2 := wrap8 k
    have HFS := hide (fil_succ Z k)
    have hp := pl_lt (Z k)
    clear hD hF hB K1
    generalize Z k = z at *
    have h256 : (k + 1) % 256 < 256 := Nat.mod_lt _ (by omega)
    generalize (k + 1) % 256 = b at *
    go_upto_region 8 with fail
    rw [e1]
    clear e1 hx
    generalize pl z = q at *
    go_wp2_with fail
    refine (run_any wr b 128 (by omega)).mono ?_
    rintro e3 w2 ⟨v, rfl, hv, hb2⟩
    have HV := hide hv
    have HB2 := hide hb2
    have HW := hide (write_ok ((good_dk _ _).below HD.out hb2) q v _ hp hv.rd (sec_rep b h256) (own_farD hv HD.out) rfl (fun h => by cases h) (by show k < _; omega) (by show (fil Z k).length < _; rw [fil_len]; omega))
    clear hv hb2
    go_wp2_with fail
    refine HW.out.mono ?_
    rintro e3 w3 ⟨rfl, F', hD3, hX3⟩
    have HN : Hid (∃ F, DkA w.heap.size (wait zro (fil Z (k + 1)) (k + 1)) w3 F ∧ (∀ b, F b → w.heap.size ≤ b) ∧ Below w.heap.size w w3) := by
      refine hide ⟨F', ?_, hX3.low HF.out (Nat.le_trans HB.out.size HB2.out.size), (HB.out.trans (HB2.out.mono HB.out.size)).trans (hX3.mod.below HF.out (Nat.le_trans HB.out.size HB2.out.size))⟩
      rw [HFS.out]; exact hD3
    clear hD3 hX3 HW HFS
    go_wp2
    go_roundw
    case rel =>
      first
        | exact ⟨k + 1, by omega, by go_num, HN⟩
        | ((repeat apply Exists.intro); refine ⟨?_, rfl⟩; exact ⟨k + 1, by omega, by go_num, HN⟩)
    case measure => simp [intOf]; omega
  · obtain rfl : k = len := by omega
    have hd : decide ((k : Int) < (k : Int)) = false := by simp
    go_wp2
    go_ret
    obtain ⟨F, hD, hF, hB⟩ := K1.out
    exact ⟨_, F, rfl, hD, hF, hB⟩
/-- what the first k sectors read -/
def seens (D : Dsk) (k : Nat) : List (List Nat) := (List.range k).map D.seen
theorem seens_succ (D : Dsk) (k : Nat) : seens D (k + 1) = seens D k ++ [D.seen k] := by simp [seens, List.range_succ]
theorem seens_len (D : Dsk) (k : Nat) : (seens D k).length = k := by simp [seens]
theorem seens_get (D : Dsk) {k n : Nat} (h : k < n) : (seens D n)[k]? = some (D.seen k) := by simp [seens, h]
set_option maxRecDepth 100000 in
set_option maxHeartbeats 1600000 in
theorem whole_any {B : Nat} {D : Dsk} {w : World} {F : Nat → Prop} (hd : DkA B D w F) (hw : D.down = false) :
    Calls Try.prog 20 #[dp B] w fun e w' => ∃ v H, e = .returned v ∧ RowsA v (seens D 1024) w' H ∧ (∀ b, H b → w.heap.size ≤ b) ∧ Below w.heap.size w w' := by
  have HD := hide hd
  obtain ⟨i5, hi, hz, hs, hbb⟩ := info29'
  clear hd
  go_enter Try.func20, Try.ntmps20
  go_wp2
  go_loopw [3, 4] (fun v i wr => ∃ k : Nat, k ≤ 1024 ∧ i = .int .i64 (k : Int) ∧ ∃ H, RowsA v (seens D k) wr H ∧ (∀ b, H b → w.heap.size ≤ b) ∧ Below w.heap.size w wr) (fun _ i _ => 1024 - (intOf i).toNat)
  case atStart => exact ⟨0, Nat.zero_le _, rfl, fun _ => False, rows_nil _, fun b h => h.elim, Below.refl _ _⟩
  case round =>
    obtain ⟨k, hk, rfl, H, hR, hH, hbel⟩ := hrel
    by_cases hlt : k < 1024
    · have hd1 : decide ((k : Int) < 1024) = true := by simp; omega
      have hD := (good_dk _ _).below HD.out hbel
      have hRk := seens_succ D k
      have HR := hide (And.intro hR (And.intro hH (And.intro hbel (And.intro hD hRk))))
      clear hR hH hbel hD hRk
      go_wp2_with fail
      refine (read_ok HR.out.2.2.2.1 k hlt hw).mono ?_
      rintro e w2 ⟨r, rfl, hr, hb2⟩
      obtain ⟨ar, cr, hrv⟩ := hr.len
      have hrl : (D.seen k).length = 128 := by
        obtain ⟨_, _, h, _⟩ := HD.out
        exact (h.ok.seen hlt).1
      rw [hrl] at hrv
      subst hrv
      obtain ⟨ao, cp, hvv, _⟩ := rows_read HR.out.1
      rw [seens_len] at hvv
      subst hvv
      obtain ⟨rs, hrs⟩ := HR.out.1
      have hown : w2.ownsRow 0 41 1 (.slice ao k cp) k rs := by
        have h1 := hrs.1
        rw [seens_len] at h1
        have h2 := hrs.2.1
        rw [h1] at h2
        exact ownsRow_keep h2 (fun b hb' => hb2.block b (hrs.2.2.2.2 b (hrs.2.2.2.1 b hb')))
      have HO := hide (And.intro hown (And.intro hrs (And.intro (hr.mono (Nat.zero_le _)) hb2)))
      have HL := hide hr
      clear hr hb2 hown hrs
      go_wp2_with (at_builtin; refine wpList_append_own_at _ rfl _ _ 53 rfl 0 41 i5 (.slice none 0 0) 1 24 Try.underlying53 hi hz hs hbb rfl (by decide) _ k rs rfl (HO.out.1.alloc _) ⟨w2.heap.size, 0, none⟩ 1 1 [.slice ar 128 cr] rfl rfl ?c1 ?c2 ?c3 ?c4 ?c5 ?_)
      case c1 => exact cell_one_new _ _ _
      case c2 => simp [Value.oneCell']
      case c3 => unfold maxLen; omega
      case c4 => omega
      case c5 => exact Nat.zero_le _
      intro v' w3 hown3 hg3 _ hloc3
      have hb23 : Below wr.heap.size wr (w2.alloc (Obj.cells #[.slice ar 128 cr] 41)) := HO.out.2.2.2.trans ((Below.refl _ _).alloc HO.out.2.2.2.size _)
      have hnew := rows_app HO.out.2.1 hb23 (HO.out.2.2.1.below ((Below.refl _ _).alloc (Nat.le_refl _) _) (Nat.le_refl _)) hown3 (seens_len _ _).symm hg3
      rw [← HR.out.2.2.2.2] at hnew
      have hlow : ∀ b, H b ∨ (Value.slice ar 128 cr).ownBlock = some b ∨ v'.ownBlock = some b → w.heap.size ≤ b := by
        have hsz := HR.out.2.2.1.size
        rintro b (h | h | h)
        · exact HR.out.2.1 b h
        · have := (World.ownsRow.lt HL.out b h).1; omega
        · rcases hloc3 with e | e
          · exact HR.out.2.1 b (HO.out.2.1.2.2.2.1 b (by rw [← e, h]))
          · rw [h] at e; simp at e; have := hb23.size; simp at this; omega
      have hb3 : Below w.heap.size w w3 := (HR.out.2.2.1.trans (hb23.mono HR.out.2.2.1.size)).grown hg3 (Nat.le_trans HR.out.2.2.1.size hb23.size) (fun b hb' => HR.out.2.1 b (HO.out.2.1.2.2.2.1 b hb'))
      have HNW := hide (And.intro hnew (And.intro hlow hb3))
      clear hown3 hg3 hloc3 hb23 hnew hlow hb3 HL HO HR
      go_wp2
      go_roundw
      case rel =>
        first
          | exact ⟨k + 1, by omega, by go_num, _, HNW.out.1, HNW.out.2.1, HNW.out.2.2⟩
          | ((repeat apply Exists.intro); refine ⟨?_, rfl⟩; exact ⟨k + 1, by omega, by go_num, _, HNW.out.1, HNW.out.2.1, HNW.out.2.2⟩)
      case measure => simp [intOf]; omega
    · obtain rfl : k = 1024 := by omega
      go_wp2
      go_ret
      exact ⟨_, H, rfl, hR, hH, hbel⟩
end Go.Proofs.Ytogpgchfaalikaa
