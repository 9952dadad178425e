import Derived.Test.YtmflohehnoghhaaPA
import Derived.Maps.AppendAt
namespace Go.Proofs.Ytmflohehnoghhaa
open Go.RowKit
def TbA (B : Nat) (m : Nat → E) : Asn := fun W H => Tb W B m ∧ ∀ b, H b ↔ b = B
def SnA (N : Nat) (m : Nat → E) : Asn := fun W H => Sn W N m ∧ ∀ b, H b ↔ b = N
def MpA (v : Value) (zs : List Mp) : Asn := fun W H => OwM W 0 v zs ∧ ∀ b, H b ↔ v.ownBlock = some b
theorem good_tb (B : Nat) (m : Nat → E) : Good (TbA B m) :=
  ⟨fun h b hb => by rw [(h.2 b).1 hb]; exact h.1.lt, fun h _ hk => ⟨h.1.keep (hk B ((h.2 B).2 rfl)), h.2⟩⟩
theorem good_sn (B : Nat) (m : Nat → E) : Good (SnA B m) :=
  ⟨fun h b hb => by rw [(h.2 b).1 hb]; exact h.1.lt, fun h _ hk => ⟨h.1.keep (hk B ((h.2 B).2 rfl)), h.2⟩⟩
theorem good_mp (v : Value) (zs : List Mp) : Good (MpA v zs) :=
  ⟨fun h b hb => (h.1.blk ((h.2 b).1 hb)).2, fun h _ hk => ⟨h.1.keep (fun b e => hk b ((h.2 b).2 e)), h.2⟩⟩
theorem OwM.zero {w : World} {base : Nat} {v : Value} {zs : List Mp} (h : OwM w base v zs) : OwM w 0 v zs := by
  obtain ⟨hl, h0 | ⟨g, cap, cur, h1, hb, h2⟩⟩ := h.out
  · exact ⟨hl, .inl h0⟩
  · exact ⟨hl, .inr ⟨g, cap, cur, h1, Nat.zero_le _, h2⟩⟩
theorem mcs_set (zs : List Mp) {k : Nat} (hk : k < zs.length) (z : Mp) (j : Nat) : (mcs (zs.set k z))[j]? = if k * 3 ≤ j ∧ j < k * 3 + 3 then z.cells[j - k * 3]? else (mcs zs)[j]? := by
  by_cases hj : j < zs.length * 3
  · have h1 : j / 3 < zs.length := by omega
    have h2 : j % 3 < 3 := Nat.mod_lt _ (by omega)
    have e : j = j / 3 * 3 + j % 3 := by omega
    have hz : zs[j / 3]? = some zs[j / 3] := List.getElem?_eq_getElem h1
    by_cases ek : k = j / 3
    · rw [if_pos (by omega)]
      have hs : (zs.set k z)[j / 3]? = some z := by rw [ek, List.getElem?_set_self h1]
      have := mcs_get _ hs h2
      rw [← e] at this
      rw [this]; congr 1; omega
    · rw [if_neg (by omega)]
      have hs : (zs.set k z)[j / 3]? = some zs[j / 3] := by rw [List.getElem?_set_ne ek, hz]
      have h3 := mcs_get _ hs h2
      have h4 := mcs_get _ hz h2
      rw [← e] at h3 h4
      rw [h3, h4]
  · rw [List.getElem?_eq_none (by rw [mcs_len]; simp; omega), if_neg (by omega), List.getElem?_eq_none (by rw [mcs_len]; omega)]
theorem OwM.set {w : World} {base g l cap : Nat} {zs : List Mp} (h : OwM w base (.slice (some ⟨g, 0, none⟩) l cap) zs) {k : Nat} (hk : k < zs.length) (z : Mp) : OwM (w.setCells g (k * 3) z.cells) base (.slice (some ⟨g, 0, none⟩) l cap) (zs.set k z) := by
  obtain ⟨hl, ⟨h0, _⟩ | ⟨g', cap', cur, hv, hb, hg, hn, hm, hs, ht⟩⟩ := h.out
  · cases h0
  · cases hv
    obtain ⟨cs', h1, h2, h3⟩ := heap_setCells g 64 z.cells (k * 3) w cur hg
    refine ⟨by rw [mcs_len], .inr ⟨g, cap, cs', by simp, hb, h1, by simpa using hn, hm, by omega, ?_⟩⟩
    apply List.ext_getElem?
    intro j
    have hlt : zs.length * 3 ≤ cur.size := by rw [hs]; exact Nat.mul_le_mul_right 3 hn
    rw [List.length_set, mcs_set zs hk z j]
    by_cases hj : j < zs.length * 3
    · rw [List.getElem?_take_of_lt hj]
      have := h3 j (by omega)
      have e1 : z.cells.length = 3 := rfl
      rw [e1] at this
      rw [Array.getElem?_toList, this, ← ht]
      split
      · rfl
      · rw [List.getElem?_take_of_lt hj, Array.getElem?_toList]
    · rw [List.getElem?_eq_none (by simp; omega), if_neg (by omega), List.getElem?_eq_none (by rw [mcs_len]; omega)]
theorem OwM.some_of {w : World} {base : Nat} {v : Value} {zs : List Mp} (h : OwM w base v zs) (hn : 0 < zs.length) : ∃ g cap, v = .slice (some ⟨g, 0, none⟩) zs.length cap ∧ zs.length ≤ cap ∧ cap ≤ maxLen ∧ ∀ o, w.frozen? ⟨g, o, none⟩ = false := by
  obtain ⟨hl, ⟨h0, h1⟩ | ⟨g', cap', cur, hv, hb, hg, hn, hm, hs, ht⟩⟩ := h.out
  · omega
  · exact ⟨g', cap', hv, hn, hm, fun o => frozen_of_row _ _ _ _ _ hg⟩
theorem OwM.cell {w : World} {base g l cap : Nat} {zs : List Mp} (h : OwM w base (.slice (some ⟨g, 0, none⟩) l cap) zs) {k : Nat} {z : Mp} (hk : zs[k]? = some z) :
    w.cell? ⟨g, k * 3, none⟩ = some (.int .i64 z.v) ∧ w.cell? ⟨g, k * 3 + 1, none⟩ = some (.int .i64 z.s) ∧ w.cell? ⟨g, k * 3 + 2, none⟩ = some (.bool z.b) := by
  obtain ⟨hl, ⟨h0, _⟩ | ⟨g', cap', cur, hv, hb, hg, hn, hm, hs, ht⟩⟩ := h.out
  · cases h0
  · cases hv
    have hkl : k < zs.length := (List.getElem?_eq_some_iff.1 hk).1
    have one : ∀ j, j < 3 → w.cell? ⟨g, k * 3 + j, none⟩ = z.cells[j]? := by
      intro j hj
      have h1 := mcs_get zs hk hj
      rw [← ht, List.getElem?_take_of_lt (by omega)] at h1
      rw [cell_of_row _ _ _ _ _ _ hg]; simpa using h1
    exact ⟨one 0 (by omega), one 1 (by omega), one 2 (by omega)⟩
section
variable {w wr w' : World} {R : Asn}
theorem Sys.mp {v : Value} {zs : List Mp} (h : Sys w wr (star (MpA v zs) R)) : OwM wr 0 v zs := by
  obtain ⟨H, ⟨H1, H2, h1, _⟩, _⟩ := h; exact h1.1
theorem Sys.tb {B : Nat} {m : Nat → E} (h : Sys w wr (star (TbA B m) R)) : Tb wr B m := by
  obtain ⟨H, ⟨H1, H2, h1, _⟩, _⟩ := h; exact h1.1
theorem Sys.sn {B : Nat} {m : Nat → E} (h : Sys w wr (star (SnA B m) R)) : Sn wr B m := by
  obtain ⟨H, ⟨H1, H2, h1, _⟩, _⟩ := h; exact h1.1
theorem Sys.sw {A B : Asn} (h : Sys w wr (star A (star B R))) : Sys w wr (star B (star A R)) := h.mono fun _ _ => star_swap
theorem Sys.sw2 {A B C : Asn} (h : Sys w wr (star A (star B (star C R)))) : Sys w wr (star C (star A (star B R))) :=
  h.mono fun _ _ h => star_swap (star_mono (fun _ _ => star_swap) h)
theorem Sys.sw3 {A B C D : Asn} (h : Sys w wr (star A (star B (star C (star D R))))) : Sys w wr (star D (star A (star B (star C R)))) :=
  h.mono fun _ _ h => star_swap (star_mono (fun _ _ h => star_swap (star_mono (fun _ _ => star_swap) h)) h)
theorem Sys.sw4 {A B C D X : Asn} (h : Sys w wr (star A (star B (star C (star D (star X R)))))) : Sys w wr (star X (star A (star B (star C (star D R))))) :=
  h.mono fun _ _ h => star_swap (star_mono (fun _ _ h => star_swap (star_mono (fun _ _ h => star_swap (star_mono (fun _ _ => star_swap) h)) h)) h)
theorem Sys.tgo {B : Nat} {m m' : Nat → E} (h : Sys w wr (star (TbA B m) R)) (hR : Good R) (hg : TGo wr w' B m') : Sys w w' (star (TbA B m') R) := by
  obtain ⟨F, hX, _, hn⟩ := h.call hR
  have hF : (fun b => b = B) = F := by funext b; exact propext (hX.2 b).symm
  exact hn w' F _ ⟨hg.1, hX.2⟩ ⟨by rw [← hF]; exact hg.2, fun _ h => .inl h⟩
theorem Sys.newMp {v : Value} {zs : List Mp} (h : Sys w wr R) (hR : Good R) (ho : OwM w' wr.heap.size v zs) (hb : Below wr.heap.size wr w') : Sys w w' (star (MpA v zs) R) :=
  h.new hR (Fc := fun b => v.ownBlock = some b) ⟨ho.zero, fun _ => Iff.rfl⟩ (fun _ hb' => (ho.blk hb').1) hb
theorem Sys.newSn {N : Nat} {m : Nat → E} (h : Sys w wr R) (hR : Good R) (ho : Sn w' N m) (hN : wr.heap.size ≤ N) (hb : Below wr.heap.size wr w') : Sys w w' (star (SnA N m) R) :=
  h.new hR (Fc := fun b => b = N) ⟨ho, fun _ => Iff.rfl⟩ (fun b hb' => by rw [hb']; exact hN) hb
theorem Sys.newTb {N : Nat} {m : Nat → E} (h : Sys w wr R) (hR : Good R) (ho : Tb w' N m) (hN : wr.heap.size ≤ N) (hb : Below wr.heap.size wr w') : Sys w w' (star (TbA N m) R) :=
  h.new hR (Fc := fun b => b = N) ⟨ho, fun _ => Iff.rfl⟩ (fun b hb' => by rw [hb']; exact hN) hb
theorem Sys.start (w : World) : Sys w w emp := ⟨fun _ => False, fun _ h => h, fun _ h => h.elim, Below.refl _ _⟩
theorem Sys.setMp {g l cap k : Nat} {zs : List Mp} {z : Mp} (h : Sys w wr (star (MpA (.slice (some ⟨g, 0, none⟩) l cap) zs) R)) (hR : Good R) (hk : k < zs.length) :
    Sys w (wr.setCells g (k * 3) z.cells) (star (MpA (.slice (some ⟨g, 0, none⟩) l cap) (zs.set k z)) R) := by
  obtain ⟨F, hX, _, hn⟩ := h.call hR
  exact hn _ F _ ⟨hX.1.set hk z, hX.2⟩ ⟨(Mod.refl _ _).setCells (.inl ((hX.2 g).2 rfl)) _ _, fun _ h => .inl h⟩
theorem Sys.appM {v v' : Value} {zs : List Mp} {z : Mp} {o : Obj} (h : Sys w wr (star (MpA v zs) R)) (hR : Good R) (hown : w'.ownsRow 0 64 3 v' (zs.length + 1) (mcs zs ++ z.cells)) (hg : (wr.alloc o).grownBy w' v.ownBlock)
    (hloc0 : v'.ownBlock = v.ownBlock ∨ v'.ownBlock = some (wr.heap.size + 1)) : Sys w w' (star (MpA v' (zs ++ [z])) R) := by
  have h' := h.alloc ((good_mp v zs).star hR) o
  have hloc : v'.ownBlock = v.ownBlock ∨ v'.ownBlock = some (wr.alloc o).heap.size := by simpa using hloc0
  clear hloc0
  obtain ⟨H, ⟨H1, H2, h1, h2, h3, h4⟩, hl, hb⟩ := h'
  generalize wr.alloc o = wa at *
  have hn : ∀ b, H2 b → b < wa.heap.size ∧ some b ≠ v.ownBlock := fun b hb2 => ⟨hR.lt h2 b hb2, fun e => h4 b ((h1.2 b).2 e.symm) hb2⟩
  refine ⟨fun b => v'.ownBlock = some b ∨ H2 b, ⟨fun b => v'.ownBlock = some b, H2, ⟨⟨by rw [mcs_snoc, List.length_append]; exact hown⟩, fun _ => Iff.rfl⟩, hR.keep h2 hg.size (fun b hb2 => hg.block b (hn b hb2).1 (hn b hb2).2), fun _ => Iff.rfl, ?_⟩, ?_, ?_⟩
  · intro b e hb2
    rcases hloc with h5 | h5
    · exact (hn b hb2).2 (by rw [← h5, e])
    · rw [e] at h5; have := (hn b hb2).1; simp at h5; omega
  · rintro b (e | hb2)
    · rcases hloc with h5 | h5
      · exact hl b ((h3 b).2 (.inl ((h1.2 b).2 (by rw [← h5, e]))))
      · rw [e] at h5; simp at h5; have := hb.size; omega
    · exact hl b ((h3 b).2 (.inr hb2))
  · exact hb.grown hg hb.size (fun k e => hl k ((h3 k).2 (.inl ((h1.2 k).2 e))))
end
theorem IsMaps.le {w : World} {a : Option Addr} {n k : Nat} {Z : Nat → Mp} (h : IsMaps w a n Z) (hk : k ≤ n) : IsMaps w a k Z := fun j hj => h j (by omega)
/-- the first k are z -/
def rp (z : Mp) (k : Nat) (L : List Mp) : List Mp := List.replicate k z ++ L.drop k
theorem rp_zero (z : Mp) (L : List Mp) : rp z 0 L = L := by simp [rp]
theorem rp_len (z : Mp) {k : Nat} {L : List Mp} (h : k ≤ L.length) : (rp z k L).length = L.length := by simp [rp]; omega
theorem rp_set (z : Mp) {k : Nat} {L : List Mp} (h : k < L.length) : (rp z k L).set k z = rp z (k + 1) L := by
  apply List.ext_getElem?
  intro j
  rw [List.getElem?_set]
  have h1 := rp_len z (k := k) (L := L) (by omega)
  split
  · rename_i e
    subst e
    rw [if_pos (by omega)]
    unfold rp
    rw [List.getElem?_append_left (by simp)]; simp
  · rename_i e
    unfold rp
    by_cases hj : j < k
    · rw [List.getElem?_append_left (by simp; omega), List.getElem?_append_left (by simp; omega)]
      rw [List.getElem?_replicate, List.getElem?_replicate, if_pos hj, if_pos (by omega)]
    · rw [List.getElem?_append_right (by simp; omega), List.getElem?_append_right (by simp; omega)]
      simp only [List.length_replicate, List.getElem?_drop]
      congr 1; omega
theorem rp_get (z : Mp) {k j : Nat} {L : List Mp} (h : j < k) (X : List Mp) : (rp z k L ++ X)[j]? = some z := by
  unfold rp
  rw [List.append_assoc, List.getElem?_append_left (by simpa using h), List.getElem?_replicate, if_pos h]
/-- Load, whatever it answers -/
theorem load_gen (w : World) (B : Nat) (m : Nat → E) (a : Option Addr) (len cap : Nat) (Z : Nat → Mp) (h : Tb w B m) (hs : Sm m) (hz : IsMaps w a len Z) (hl : len ≤ maxLen) :
    Calls Try.prog 12 #[.pointer (some ⟨B, 0, none⟩), .slice a len cap] w fun e w' => ∃ c m', e = .returned (.int .i64 c) ∧ Sm m' ∧ TGo w w' B m' := by
  refine (load_any w B m a len cap Z h hz hl).mono ?_
  rintro e w' (⟨c, _, rfl, hb⟩ | ⟨m', hm, rfl, hg⟩)
  · exact ⟨c, m, rfl, hs, TGo.below h hb⟩
  · exact ⟨0, m', rfl, lay_sm hm, hg⟩
set_option maxRecDepth 100000 in
set_option maxHeartbeats 1600000 in
theorem sameMaps_eq (w : World) (a a' : Option Addr) (len cap cap' : Nat) (Z Z' : Nat → Mp) (hz : IsMaps w a len Z) (hz' : IsMaps w a' len Z') (he : ∀ k, k < len → Z k = Z' k) (hl : len ≤ maxLen) :
    Calls Try.prog 16 #[.slice a len cap, .slice a' len cap'] w fun e w' => e = .returned (.bool true) ∧ Below w.heap.size w w' := by
  have H := hide (And.intro hz (And.intro hz' he))
  have hl' : len ≤ 9223372036854775807 := hl
  clear hz hz' he
  go_enter Try.func16, Try.ntmps16
  go_upto_region 4 with fail
  go_loopw [5] (fun i wr => ∃ k : Nat, k ≤ len ∧ i = .int .i64 (k : Int) ∧ Below w.heap.size w wr) (fun i _ => len - (intOf i).toNat)
  case atStart => exact ⟨0, by omega, rfl, Below.refl _ _⟩
  case round =>
    obtain ⟨k, hk, rfl, hM⟩ := hrel
    by_cases hlt : k < len
    · have hd : decide (k < len) = true := by simp; omega
      obtain ⟨x, hx, _⟩ := H.out.1 k hlt
      obtain ⟨y, hy, _⟩ := H.out.2.1 k hlt
      subst hx
      subst hy
      obtain ⟨c0, c1, c2⟩ := (H.out.1.below hM).c hlt
      obtain ⟨d0, d1, d2⟩ := (H.out.2.1.below hM).c hlt
      rw [← H.out.2.2 k hlt] at d0 d1 d2
      generalize (Z k).v = v at *
      generalize (Z k).s = s at *
      generalize (Z k).b = b at *
      have HM := hide hM.drew
      clear hM
      go_upto_region 6 with fail
      go_region_held (fun W => W.cell? (x.add (k * 3)) = some (.int .i64 v) ∧ W.cell? ⟨(x.add (k * 3)).block, (x.add (k * 3)).off + 1, none⟩ = some (.int .i64 s) ∧ W.cell? ⟨(x.add (k * 3)).block, (x.add (k * 3)).off + 2, none⟩ = some (.bool b) ∧ W.cell? (y.add (k * 3)) = some (.int .i64 v) ∧ W.cell? ⟨(y.add (k * 3)).block, (y.add (k * 3)).off + 1, none⟩ = some (.int .i64 s) ∧ W.cell? ⟨(y.add (k * 3)).block, (y.add (k * 3)).off + 2, none⟩ = some (.bool b)) (exact ⟨c0, c1, c2, d0, d1, d2⟩) (fail)
      rename_i hHeld
      clear hHeld c0 c1 c2 d0 d1 d2
      go_wp2
      go_roundw
      case rel => exact ⟨k + 1, by omega, by go_num, HM.out⟩
      case measure => simp [intOf]; omega
    · have hd : decide (k < len) = false := by simp; omega
      have HM := hide hM
      clear hM
      go_wp2
      go_ret
      exact ⟨rfl, HM.out⟩
end Go.Proofs.Ytmflohehnoghhaa
