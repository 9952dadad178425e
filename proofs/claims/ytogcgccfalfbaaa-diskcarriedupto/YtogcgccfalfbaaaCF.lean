import Derived.Test.YtogcgccfalfbaaaCE
namespace Go.Proofs.Ytogcgccfalfbaaa
open Go.RowKit

theorem own_type {W : World} {b1 b2 e1 e2 s1 s2 n1 n2 : Nat} {v1 v2 : Value} {x1 x2 : List Value} (h1 : W.ownsRow b1 e1 s1 v1 n1 x1) (h2 : W.ownsRow b2 e2 s2 v2 n2 x2) (hne : e1 ≠ e2) {b : Nat} (hb : v1.ownBlock = some b) : v2.ownBlock ≠ some b := by
  intro hb2
  obtain ⟨_, ⟨rfl, _⟩ | ⟨g, cap, cur, rfl, _, hg, _⟩⟩ := h1
  · simp [Value.ownBlock] at hb
  · obtain ⟨_, ⟨rfl, _⟩ | ⟨g', cap', cur', rfl, _, hg', _⟩⟩ := h2
    · simp [Value.ownBlock] at hb2
    · simp [Value.ownBlock] at hb hb2
      subst hb; subst hb2
      rw [hg] at hg'
      simp at hg'
      exact hne hg'.2
/-- a list of own rows of bytes, itself own -/
def RowsAt (v : Value) (L : List (List Nat)) (rs : List Value) : Asn := fun W H => rs.length = L.length ∧ W.ownsRow 0 34 1 v rs.length rs ∧ (∀ (i : Nat) (zs : List Nat), L[i]? = some zs → ∃ r, rs[i]? = some r ∧ Ow W 0 r zs ∧ ∀ b, r.ownBlock = some b → H b) ∧
  (∀ b, v.ownBlock = some b → H b) ∧ ∀ b, H b → b < W.heap.size
def RowsA (v : Value) (L : List (List Nat)) : Asn := fun W H => ∃ rs : List Value, RowsAt v L rs W H
theorem good_rows (v : Value) (L : List (List Nat)) : Good (RowsA v L) := by
  refine ⟨?_, ?_⟩
  · rintro W H ⟨rs, _, _, _, _, h⟩; exact h
  · rintro W W' H ⟨rs, h1, h2, h3, h4, h5⟩ hs hk
    refine ⟨rs, h1, ownsRow_keep h2 (fun b hb => hk b (h4 b hb)), fun i zs hz => ?_, h4, fun b hb => Nat.lt_of_lt_of_le (h5 b hb) hs⟩
    obtain ⟨r, hr, ho, hH⟩ := h3 i zs hz
    exact ⟨r, hr, ownsRow_keep ho (fun b hb => hk b (hH b hb)), hH⟩
theorem rows_nil (W : World) : RowsA (.slice none 0 0) [] W (fun _ => False) :=
  ⟨[], rfl, World.ownsRow_nil _ _ _ _, fun i zs h => by simp at h, fun b h => by simp [Value.ownBlock] at h, fun b h => h.elim⟩
theorem rows_app {v v' r : Value} {L : List (List Nat)} {zs : List Nat} {rs : List Value} {W W2 w' : World} {H : Nat → Prop} {n : Nat} (h : RowsAt v L rs W H) (hb : Below W.heap.size W W2) (hr : Ow W2 0 r zs)
    (ho : w'.ownsRow 0 34 1 v' (n + 1) (rs ++ [r])) (hn : n = L.length) (hg : W2.grownBy w' v.ownBlock) :
    RowsA v' (L ++ [zs]) w' (fun b => H b ∨ r.ownBlock = some b ∨ v'.ownBlock = some b) := by
  obtain ⟨h1, h2, h3, h4, h5⟩ := h
  have h2' : W2.ownsRow 0 34 1 v rs.length rs := ownsRow_keep h2 (fun b hb' => hb.block b (h5 b (h4 b hb')))
  have keep : ∀ {q : Value} {ys : List Nat}, Ow W2 0 q ys → Ow w' 0 q ys := fun {q ys} hq => ownsRow_keep hq (fun b hb' => hg.block b (ownsRow_lt hq hb') (fun e => own_type hq h2' (by decide) hb' e.symm))
  refine ⟨rs ++ [r], by simp [h1], by rw [List.length_append, h1, ← hn]; exact ho, fun i ys hy => ?_, fun b hb' => .inr (.inr hb'), fun b hb' => ?_⟩
  · by_cases hi : i < L.length
    · rw [List.getElem?_append_left hi] at hy
      obtain ⟨q, hq, hq2, hq3⟩ := h3 i ys hy
      refine ⟨q, by rw [List.getElem?_append_left (by omega)]; exact hq, keep (ownsRow_keep hq2 (fun b hb' => hb.block b (h5 b (hq3 b hb')))), fun b hb' => .inl (hq3 b hb')⟩
    · have hil : i < (L ++ [zs]).length := (List.getElem?_eq_some_iff.1 hy).1
      simp at hil
      obtain rfl : i = L.length := by omega
      simp at hy
      subst hy
      exact ⟨r, by rw [← h1]; simp, keep hr, fun b hb' => .inr (.inl hb')⟩
  · rcases hb' with h6 | h6 | h6
    · exact Nat.lt_of_lt_of_le (h5 b h6) (Nat.le_trans hb.size hg.size)
    · exact ownsRow_lt (keep hr) h6
    · exact ownsRow_lt ho h6
/-- the list, read -/
theorem rows_read {v : Value} {L : List (List Nat)} {W : World} {H : Nat → Prop} (h : RowsA v L W H) : ∃ (ao : Option Addr) (cap : Nat), v = .slice ao L.length cap ∧ ∀ (k : Nat) (zs : List Nat), L[k]? = some zs → ∃ g r, ao = some ⟨g, 0, none⟩ ∧ W.cell? ⟨g, k, none⟩ = some r ∧ Rd W r zs := by
  obtain ⟨rs, h1, h2, h3, _⟩ := h
  have h2' := h2
  obtain ⟨hl, ⟨rfl, h0⟩ | ⟨g, cap, cur, rfl, hb, hg, hn, hm, hs, ht⟩⟩ := h2
  · refine ⟨none, 0, by rw [← h1, h0], fun k zs hk => ?_⟩
    have := (List.getElem?_eq_some_iff.1 hk).1; omega
  · refine ⟨_, cap, by rw [h1], fun k zs hk => ?_⟩
    obtain ⟨r, hr, ho, _⟩ := h3 k zs hk
    refine ⟨g, r, rfl, ?_, ho.rd⟩
    have := World.ownsRow.cells h2' rfl k r hr
    rw [add0] at this; exact this
theorem info29' : ∃ i, Try.prog.info? 34 = some i ∧ i.zero = some (.slice none 0 0) ∧ i.size = 1 ∧ i.bytes = 24 := info_parts (by kernel_rfl)
/-- what the medium holds in the sectors of the first k writes -/
def rawsOf (M : Nat → List Nat) (Z : Nat → Int × Nat) (k : Nat) : List (List Nat) := (List.range k).map (fun j => M (pl (Z j).1))
theorem rawsOf_succ (M : Nat → List Nat) (Z : Nat → Int × Nat) (k : Nat) : rawsOf M Z (k + 1) = rawsOf M Z k ++ [M (pl (Z k).1)] := by simp [rawsOf, List.range_succ]
theorem rawsOf_len (M : Nat → List Nat) (Z : Nat → Int × Nat) (k : Nat) : (rawsOf M Z k).length = k := by simp [rawsOf]
theorem rawsOf_get (M : Nat → List Nat) (Z : Nat → Int × Nat) {k n : Nat} (h : k < n) : (rawsOf M Z n)[k]? = some (M (pl (Z k).1)) := by simp [rawsOf, h]
set_option maxRecDepth 100000 in
set_option maxHeartbeats 1000000 in
theorem raws_any {B : Nat} {D : Dsk} {w ws : World} {F : Nat → Prop} (hd : DkA B D ws F) (hb : Below w.heap.size w ws)
    (a : Option Addr) (len cap : Nat) (Z : Nat → Int × Nat) (hl : len ≤ 4194304) (hZ : IsPuts w a len Z) :
    Calls Try.prog 9 #[dp B, .slice a len cap] ws fun e w' => ∃ v H, e = .returned v ∧ RowsA v (rawsOf D.M Z len) w' H ∧ (∀ b, H b → ws.heap.size ≤ b) ∧ Below ws.heap.size ws w' := by
  have HZ := hide hZ
  have H0 := hide hb
  have HD := hide hd
  obtain ⟨i5, hi, hz, hs, hbb⟩ := info29'
  clear hZ hb hd
  go_enter Try.func9, Try.ntmps9
  go_wp2
  go_loopw [5, 6] (fun v i wr => ∃ k : Nat, k ≤ len ∧ i = .int .i64 (k : Int) ∧ ∃ H, RowsA v (rawsOf D.M Z k) wr H ∧ (∀ b, H b → ws.heap.size ≤ b) ∧ Below ws.heap.size ws wr) (fun _ i _ => len - (intOf i).toNat)
  case atStart => exact ⟨0, Nat.zero_le _, rfl, fun _ => False, rows_nil _, fun b h => h.elim, Below.refl _ _⟩
  case round =>
    obtain ⟨k, hk, rfl, H, hR, hH, hbel⟩ := hrel
    by_cases hlt : k < len
    · have hd1 : decide (k < len) = true := by simp; omega
      obtain ⟨x, hx, hb8, hp⟩ := HZ.out.at hlt
      subst hx
      obtain ⟨c0, c1⟩ := hp _ (H0.out.trans (hbel.mono H0.out.size))
      obtain ⟨z, hzz⟩ : ∃ z, Z k = z := ⟨_, rfl⟩
      rw [hzz] at c0
      have hD := (good_dk _ _).below HD.out hbel
      have hRk := rawsOf_succ D.M Z k
      rw [hzz] at hRk
      have HR := hide (And.intro hR (And.intro hH (And.intro hbel (And.intro hD hRk))))
      clear hp c1 hR hH hbel hD hRk
      go_wp2_with fail
      refine (place_any z.1 _).mono ?_
      rintro e w1 ⟨rfl, rfl⟩
      go_wp2_with fail
      refine (raw_ok HR.out.2.2.2.1 (pl z.1) (pl_lt _)).mono ?_
      rintro e w2 ⟨r, rfl, hr, hb2⟩
      obtain ⟨ar, cr, hrv⟩ := hr.len
      have hrl : (D.M (pl z.1)).length = 128 := by
        obtain ⟨_, _, h, _⟩ := HD.out
        exact (h.ok.m _ (pl_lt _)).1
      rw [hrl] at hrv
      subst hrv
      obtain ⟨ao, cp, hvv, _⟩ := rows_read HR.out.1
      rw [rawsOf_len] at hvv
      subst hvv
      obtain ⟨rs, hrs⟩ := HR.out.1
      have hown : w2.ownsRow 0 34 1 (.slice ao k cp) k rs := by
        have h1 := hrs.1
        rw [rawsOf_len] at h1
        have h2 := hrs.2.1
        rw [h1] at h2
        exact ownsRow_keep h2 (fun b hb' => hb2.block b (hrs.2.2.2.2 b (hrs.2.2.2.1 b hb')))
      have HO := hide (And.intro hown (And.intro hrs (And.intro (hr.mono (Nat.zero_le _)) hb2)))
      have HL := hide hr
      clear hr hb2 hown hrs c0
      go_wp2_with (at_builtin; refine wpList_append_own_at _ rfl _ _ 32 rfl 0 34 i5 (.slice none 0 0) 1 24 Try.underlying32 hi hz hs hbb rfl (by decide) _ k rs rfl (HO.out.1.alloc _) ⟨w2.heap.size, 0, none⟩ 1 1 [.slice ar 128 cr] rfl rfl ?c1 ?c2 ?c3 ?c4 ?c5 ?_)
      case c1 => exact cell_one_new _ _ _
      case c2 => simp [Value.oneCell']
      case c3 => unfold maxLen; omega
      case c4 => omega
      case c5 => exact Nat.zero_le _
      intro v' w3 hown3 hg3 _ hloc3
      have hb23 : Below w1.heap.size w1 (w2.alloc (Obj.cells #[.slice ar 128 cr] 34)) := HO.out.2.2.2.trans ((Below.refl _ _).alloc HO.out.2.2.2.size _)
      have hnew := rows_app HO.out.2.1 hb23 (HO.out.2.2.1.below ((Below.refl _ _).alloc (Nat.le_refl _) _) (Nat.le_refl _)) hown3 (rawsOf_len _ _ _).symm hg3
      rw [← HR.out.2.2.2.2] at hnew
      have hlow : ∀ b, H b ∨ (Value.slice ar 128 cr).ownBlock = some b ∨ v'.ownBlock = some b → ws.heap.size ≤ b := by
        have hsz := HR.out.2.2.1.size
        rintro b (h | h | h)
        · exact HR.out.2.1 b h
        · have := (World.ownsRow.lt HL.out b h).1; omega
        · rcases hloc3 with e | e
          · exact HR.out.2.1 b (HO.out.2.1.2.2.2.1 b (by rw [← e, h]))
          · rw [h] at e; simp at e; have := hb23.size; simp at this; omega
      have hb3 : Below ws.heap.size ws w3 := (HR.out.2.2.1.trans (hb23.mono HR.out.2.2.1.size)).grown hg3 (Nat.le_trans HR.out.2.2.1.size hb23.size) (fun b hb' => HR.out.2.1 b (HO.out.2.1.2.2.2.1 b hb'))
      have HNW := hide (And.intro hnew (And.intro hlow hb3))
      clear hown3 hg3 hloc3 hb23 hnew hlow hb3 HL HO HR
      go_wp2
      go_roundw
      case rel => exact ⟨k + 1, by omega, by go_num, _, HNW.out.1, HNW.out.2.1, HNW.out.2.2⟩
      case measure => simp [intOf]; omega
    · obtain rfl : k = len := by omega
      go_wp2
      go_ret
      exact ⟨_, H, rfl, hR, hH, hbel⟩
end Go.Proofs.Ytogcgccfalfbaaa
