import Derived.Test.YtnpklhjndominaaC1
namespace Go.Proofs.Ytnpklhjndominaa
open Go.RowKit

def lenOf : Value → Nat
  | .slice _ l _ => l
  | _ => 0
def room (v : Value) : Nat := 128 - lenOf v
/-- the last byte, or 7 -/
def lastOf (zs : List Nat) : Nat := if zs = [] then 7 else zs.getD (zs.length - 1) 0
/-- bytes cut, or filled up, to a sector's length -/
def fl (zs : List Nat) : List Nat := (zs ++ List.replicate (128 - zs.length) (lastOf zs)).take 128
theorem lastOf_lt {zs : List Nat} (h : ∀ z ∈ zs, z < 256) : lastOf zs < 256 := by
  unfold lastOf
  split
  · omega
  · by_cases hl : zs.length - 1 < zs.length
    · rw [List.getD, List.getElem?_eq_getElem hl]; exact h _ (List.getElem_mem hl)
    · rename_i h0; have := List.length_pos_iff.2 h0; omega
theorem fl_sec {zs : List Nat} (h : ∀ z ∈ zs, z < 256) : Sec (fl zs) := by
  refine ⟨by simp [fl]; omega, fun x hx => ?_⟩
  have hx' := List.mem_of_mem_take hx
  rcases List.mem_append.1 hx' with h1 | h1
  · exact h x h1
  · rw [(List.mem_replicate.1 h1).2]; exact lastOf_lt h
theorem fl_one (b : Nat) : fl [b] = List.replicate 128 b := by
  simp only [fl, lastOf]
  rfl
theorem cell_one_new (w : World) (t : TypeId) (u : Value) : ∀ j v, [u][j]? = some v → (w.alloc (.cells #[u] t)).cell? ((⟨w.heap.size, 0, none⟩ : Addr).add j) = some v := by
  intro j v hv
  match j, hv with
  | 0, hv =>
    rw [add0]
    have := heap_alloc_last w (.cells #[u] t)
    rw [cell_of_row _ _ _ _ _ _ this]
    simpa using hv
theorem Ow.below {w w' : World} {base B : Nat} {v : Value} {zs : List Nat} (h : Ow w base v zs) (hb : Below B w w') (hB : w.heap.size ≤ B) : Ow w' base v zs :=
  ownsRow_keep h (fun b e => hb.block b (by have := ownsRow_lt h e; omega))
theorem Ow.mono {w : World} {base base' : Nat} {v : Value} {zs : List Nat} (h : Ow w base v zs) (hb : base' ≤ base) : Ow w base' v zs := by
  obtain ⟨hl, ⟨rfl, h0⟩ | ⟨g, cap, cur, rfl, hbs, hg, hn, hm, hs, ht⟩⟩ := h
  · exact ⟨hl, .inl ⟨rfl, h0⟩⟩
  · exact ⟨hl, .inr ⟨g, cap, cur, rfl, by omega, hg, hn, hm, hs, ht⟩⟩
theorem Ow.some_of {w : World} {base : Nat} {v : Value} {zs : List Nat} (h : Ow w base v zs) (hp : 0 < zs.length) : ∃ g cap, v = .slice (some ⟨g, 0, none⟩) zs.length cap ∧ base ≤ g ∧ zs.length ≤ cap ∧ g < w.heap.size := by
  have h' := h
  obtain ⟨hl, ⟨_, h0⟩ | ⟨g, cap, cur, hv, hb, hg, hn, hm, hs, ht⟩⟩ := h
  · omega
  · exact ⟨g, cap, hv, hb, hn, (Array.getElem?_eq_some_iff.1 hg).1⟩
theorem Ow.len {w : World} {base : Nat} {v : Value} {zs : List Nat} (h : Ow w base v zs) : ∃ ao cap, v = .slice ao zs.length cap := h.rd.len
theorem Ow.cell {w : World} {base g cap j l : Nat} {zs : List Nat} (h : Ow w base (.slice (some ⟨g, 0, none⟩) l cap) zs) (hj : j < zs.length) :
    w.cell? ⟨g, j, none⟩ = some (.int .u8 (zs.getD j 0 : Nat)) := by
  have hc := World.ownsRow.cells h rfl j (By (zs.getD j 0)) (by simp [List.getD, List.getElem?_eq_getElem hj])
  rw [add0] at hc; exact hc
/-- the first k of an own row -/
theorem Ow.cut {w : World} {base g cap l : Nat} {zs : List Nat} (h : Ow w base (.slice (some ⟨g, 0, none⟩) l cap) zs) (k : Nat) (hk : k ≤ zs.length) : Ow w base (.slice (some ⟨g, 0, none⟩) k cap) (zs.take k) := by
  obtain ⟨hl, ⟨h0, _⟩ | ⟨g', cap', cur, hv, hb, hg, hn, hm, hs, ht⟩⟩ := h
  · cases h0
  · cases hv
    have e : (zs.take k).length = k := by simp; omega
    refine ⟨by simp, .inr ⟨g, cap, cur, by rw [e], hb, hg, by omega, hm, hs, ?_⟩⟩
    rw [e, List.map_take, ← ht, List.take_take]
    congr 1; omega
def ext (zs : List Nat) (m : Nat) : List Nat := zs ++ List.replicate (m - zs.length) (lastOf zs)
theorem ext_0 (zs : List Nat) : ext zs zs.length = zs := by simp [ext]
theorem ext_len {zs : List Nat} {m : Nat} (h : zs.length ≤ m) : (ext zs m).length = m := by simp [ext]; omega
theorem ext_succ {zs : List Nat} {m : Nat} (h : zs.length ≤ m) : ext zs (m + 1) = ext zs m ++ [lastOf zs] := by
  unfold ext
  rw [show m + 1 - zs.length = (m - zs.length) + 1 by omega, List.replicate_succ', List.append_assoc]
theorem ext_fl {zs : List Nat} {m : Nat} (h : zs.length ≤ m) (h1 : 128 ≤ m) (h2 : m = zs.length ∨ m ≤ 128) : (ext zs m).take 128 = fl zs := by
  unfold ext fl
  rcases h2 with rfl | h2
  · rw [show 128 - zs.length = 0 by omega, Nat.sub_self]
  · rw [show m = 128 by omega]
theorem below_own {w wr w2 : World} {e size n : Nat} {v : Value} {xs : List Value} {o : Obj} (hb : Below w.heap.size w wr) (ho : wr.ownsRow w.heap.size e size v n xs) (hg : (wr.alloc o).grownBy w2 v.ownBlock) (hs : w.heap.size ≤ wr.heap.size) : Below w.heap.size w w2 :=
  (hb.alloc hs o).grown hg (by simp; omega) (fun k e => (World.ownsRow.lt ho k e).1)
set_option maxRecDepth 100000 in
set_option maxHeartbeats 400000 in
theorem filled_any (v : Value) (zs : List Nat) (w : World) (hv : Rd w v zs) (hl : zs.length ≤ 1048576) :
    Calls Try.prog 28 #[v] w fun e w' => ∃ r, e = .returned r ∧ Ow w' w.heap.size r (fl zs) ∧ Below w.heap.size w w' := by
  obtain ⟨i5, hi, hz, hs, hb⟩ := info5'
  go_enter Try.func28, Try.ntmps28
  go_wp2_with fail
  refine (copied_any v zs _ hv hl).mono ?_
  rintro e w1 ⟨r, rfl, hr, hb1⟩
  have HR := hide hr
  have HV := hide hv
  obtain ⟨ao, cap, hrv⟩ := hr.len
  clear hr hv
  obtain ⟨n, hn⟩ : ∃ n, zs.length = n := ⟨_, rfl⟩
  rw [hn] at hrv hl
  subst hrv
  have HN := hide hn
  clear hn
  by_cases h0 : n = 0
  · subst h0
    have hz0 : zs = [] := List.eq_nil_of_length_eq_zero HN.out
    have HL : Hid (lastOf zs = 7) := by rw [hz0]; rfl
    clear hz0
    go_wp2
    go_loopw [3] (fun b wr => ∃ m : Nat, Ow wr w.heap.size b (ext zs m) ∧ zs.length ≤ m ∧ (m = zs.length ∨ m ≤ 128) ∧ w.heap.size ≤ wr.heap.size ∧ Below w.heap.size w wr) (fun b _ => room b)
    case atStart => exact ⟨zs.length, by rw [ext_0]; exact HR.out, Nat.le_refl _, .inl rfl, hb1.size, hb1⟩
    case round =>
      obtain ⟨m, hO, hm1, hm2, hsz, hbel⟩ := hrel
      have hlen := ext_len hm1
      have HM := hide (And.intro hm1 hm2)
      clear hm1 hm2 HR
      by_cases hlt : m < 128
      · have hd2 : decide (m < 128) = true := by simp; omega
        obtain ⟨a2, c2, rfl⟩ := hO.len
        have hO' : wr.ownsRow w.heap.size 5 1 (.slice a2 (ext zs m).length c2) (ext zs m).length ((ext zs m).map By) := hO
        rw [hlen] at hO' ⊢
        have HO := hide hO'
        clear hO hO' hlen
        go_wp2_with (at_builtin; refine wpList_append_own _ rfl _ _ 27 rfl w.heap.size 5 i5 (.int .u8 0) 1 1 Try.underlying27 hi hz hs hb rfl (by decide) _ m ((ext zs m).map By) rfl (HO.out.alloc _) ⟨wr.heap.size, 0, none⟩ 1 1 [By 7] rfl rfl ?c1 ?c2 ?c3 ?c4 ?c5 ?_)
        case c1 => exact cell_one_new _ _ _
        case c2 => simp [By, Value.oneCell']
        case c3 => unfold maxLen; omega
        case c4 => omega
        case c5 => simp; omega
        intro r2 w2 hown hg _
        have h2 : Ow w2 w.heap.size r2 (ext zs (m + 1)) := by
          unfold Ow
          rw [ext_succ HM.out.1, HL.out, List.length_append, ext_len HM.out.1, List.map_append]; exact hown
        obtain ⟨a3, c3, h3⟩ := h2.len
        rw [ext_len (Nat.le_succ_of_le HM.out.1)] at h3
        have H2 := hide h2
        have HB2 := hide (below_own hbel HO.out hg hsz)
        clear hown h2
        go_wp2
        go_roundw
        case rel => exact ⟨m + 1, H2.out, Nat.le_succ_of_le HM.out.1, .inr (by omega), HB2.out.size, HB2.out⟩
        case measure => simp [room, lenOf, h3]; omega
      · have hd2 : decide (m < 128) = false := by simp; omega
        obtain ⟨g2, cp2, rfl, _, hc2, _⟩ := hO.some_of (by rw [hlen]; omega)
        rw [hlen] at hO hc2 ⊢
        have HO := hide (hO.cut 128 (by rw [hlen]; omega))
        clear hO hlen
        go_wp2
        go_ret
        exact ⟨_, rfl, by rw [← ext_fl HM.out.1 (by omega) HM.out.2]; exact HO.out, hbel⟩
  · have hd : decide (0 < n) = true := by simp; omega
    have HL0 : Hid (lastOf zs = zs.getD (n - 1) 0) := by
      have h1 := HN.out
      show lastOf zs = _
      unfold lastOf; rw [if_neg (fun e => h0 (by rw [← h1, e]; rfl)), h1]
    obtain ⟨g, hg⟩ : ∃ g, ao = some ⟨g, 0, none⟩ := by
      obtain ⟨g, cp, hv', _, _, _⟩ := HR.out.some_of (by rw [HN.out]; omega)
      simp at hv'
      exact ⟨g, hv'.1⟩
    subst hg
    have hc : w1.cell? ⟨g, n - 1, none⟩ = some (.int .u8 (zs.getD (n - 1) 0 : Nat)) := Ow.cell HR.out (by rw [HN.out]; omega)
    have HL : Hid (lastOf zs = zs.getD (n - 1) 0) := HL0
    generalize zs.getD (n - 1) 0 = lst at *
    clear HL0
    go_wp2
    go_loopw [3] (fun b wr => ∃ m : Nat, Ow wr w.heap.size b (ext zs m) ∧ zs.length ≤ m ∧ (m = zs.length ∨ m ≤ 128) ∧ w.heap.size ≤ wr.heap.size ∧ Below w.heap.size w wr) (fun b _ => room b)
    case atStart => exact ⟨zs.length, by rw [ext_0]; exact HR.out, Nat.le_refl _, .inl rfl, hb1.size, hb1⟩
    case round =>
      obtain ⟨m, hO, hm1, hm2, hsz, hbel⟩ := hrel
      have hlen := ext_len hm1
      have HM := hide (And.intro hm1 hm2)
      clear hm1 hm2 HR
      by_cases hlt : m < 128
      · have hd2 : decide (m < 128) = true := by simp; omega
        obtain ⟨a2, c2, rfl⟩ := hO.len
        have hO' : wr.ownsRow w.heap.size 5 1 (.slice a2 (ext zs m).length c2) (ext zs m).length ((ext zs m).map By) := hO
        rw [hlen] at hO' ⊢
        have HO := hide hO'
        clear hO hO' hlen
        go_wp2_with (at_builtin; refine wpList_append_own _ rfl _ _ 27 rfl w.heap.size 5 i5 (.int .u8 0) 1 1 Try.underlying27 hi hz hs hb rfl (by decide) _ m ((ext zs m).map By) rfl (HO.out.alloc _) ⟨wr.heap.size, 0, none⟩ 1 1 [By lst] rfl rfl ?c1 ?c2 ?c3 ?c4 ?c5 ?_)
        case c1 => exact cell_one_new _ _ _
        case c2 => simp [By, Value.oneCell']
        case c3 => unfold maxLen; omega
        case c4 => omega
        case c5 => simp; omega
        intro r2 w2 hown hg _
        have h2 : Ow w2 w.heap.size r2 (ext zs (m + 1)) := by
          unfold Ow
          rw [ext_succ HM.out.1, HL.out, List.length_append, ext_len HM.out.1, List.map_append]; exact hown
        obtain ⟨a3, c3, h3⟩ := h2.len
        rw [ext_len (Nat.le_succ_of_le HM.out.1)] at h3
        have H2 := hide h2
        have HB2 := hide (below_own hbel HO.out hg hsz)
        clear hown h2
        go_wp2
        go_roundw
        case rel => exact ⟨m + 1, H2.out, Nat.le_succ_of_le HM.out.1, .inr (by omega), HB2.out.size, HB2.out⟩
        case measure => simp [room, lenOf, h3]; omega
      · have hd2 : decide (m < 128) = false := by simp; omega
        obtain ⟨g2, cp2, rfl, _, hc2, _⟩ := hO.some_of (by rw [hlen]; omega)
        rw [hlen] at hO hc2 ⊢
        have HO := hide (hO.cut 128 (by rw [hlen]; omega))
        clear hO hlen
        go_wp2
        go_ret
        exact ⟨_, rfl, by rw [← ext_fl HM.out.1 (by omega) HM.out.2]; exact HO.out, hbel⟩
/-- what a Write is handed -/
def Opr.bytes (o : Opr) : List Nat := if o.fill then fl o.zs else o.zs
theorem Opr.bytes_lt {o : Opr} (h : ∀ z ∈ o.zs, z < 256) : ∀ z ∈ o.bytes, z < 256 := by
  unfold Opr.bytes; split
  · exact (fl_sec h).2
  · exact h
theorem handed_any (o : Opr) (w : World) (hr : Rd w o.data o.zs) (hk : RdB w o.keep o.ks) (hl : o.zs.length ≤ 1048576) :
    Calls Try.prog 13 #[.agg #[.int .i64 o.kind, .bool o.two, .int .i64 o.sec, .int .i64 o.at', o.data, .bool o.fill, o.keep]] w fun e w' => ∃ r, e = .returned r ∧ Ow w' w.heap.size r o.bytes ∧ Below w.heap.size w w' := by
  obtain ⟨kind, two, sec, at', data, zs, fill, keep, ks⟩ := o
  simp only at hr hk hl ⊢
  obtain ⟨ao, cp, rfl⟩ := hr.len
  obtain ⟨ak, ck, rfl⟩ := hk.len
  have hb1 : ∀ ob, Rd (w.alloc ob) (.slice ao zs.length cp) zs := fun ob => hr.below ((Below.refl _ _).alloc (Nat.le_refl _) ob) (Nat.le_refl _)
  have HB := hide hb1
  have HL := hide hl
  clear hb1 hr hk hl
  unfold Opr.bytes
  simp only
  obtain ⟨n, hn⟩ : ∃ n, zs.length = n := ⟨_, rfl⟩
  rw [hn] at HB ⊢
  cases fill
  · go_enter Try.func13, Try.ntmps13
    go_wp2_with fail
    refine (copied_any _ zs _ (HB.out _) HL.out).mono ?_
    rintro e w1 ⟨r, rfl, hr, hb1⟩
    go_wp2
    go_ret
    exact ⟨_, rfl, hr.mono (by simp), ((Below.refl _ _).alloc (Nat.le_refl _) _).trans (hb1.mono (by simp))⟩
  · go_enter Try.func13, Try.ntmps13
    go_wp2_with fail
    refine (filled_any _ zs _ (HB.out _) HL.out).mono ?_
    rintro e w1 ⟨r, rfl, hr, hb1⟩
    go_wp2
    go_ret
    exact ⟨_, rfl, hr.mono (by simp), ((Below.refl _ _).alloc (Nat.le_refl _) _).trans (hb1.mono (by simp))⟩
end Go.Proofs.Ytnpklhjndominaa
