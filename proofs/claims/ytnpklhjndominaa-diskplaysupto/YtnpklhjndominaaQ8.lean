import Derived.Test.YtnpklhjndominaaQ7
namespace Go.Proofs.Ytnpklhjndominaa
open Go.RowKit

/-- the disk with the medium M -/
def Dsk.onM (D : Dsk) (M : Nat → List Nat) : Dsk := { D with M := M }
/-- one that waits lands -/
theorem land1 {w w3 w4 : World} {R : Nat} {lv wv lv2 : Value} {rl : List Rc} {ds es : List Value} {G F : Nat → Prop} {D : Dsk} {o : Obj} {i : Nat} {x : Nat × List Nat} {d : Value} (hk : RkAt w R lv wv rl ds es G D) (he : ∀ b, F b ↔ b = R ∨ lv.ownBlock = some b ∨ wv.ownBlock = some b ∨ G b)
    (h3 : w3 = w.alloc o) (hx : D.c[i]? = some x) (hd : es[i]? = some d) (hm : ∀ s, s < 1024 → (D.M s).length = 128) (hx1 : x.1 < 1024 ∧ Sec x.2)
    (ho : w4.ownsRow 0 51 3 lv2 (rl.length + 1) (encRs rl ds ++ encR x.1 0 d)) (hg : w3.grownBy w4 lv.ownBlock) (hloc : lv2.ownBlock = lv.ownBlock ∨ lv2.ownBlock = some w3.heap.size) :
    ∃ F', RkAt (w4.setCell ⟨R, 0, none⟩ lv2) R lv2 wv (rl ++ [(x.1, 0, x.2)]) (ds ++ [d]) es G (D.onM (upd D.M x.1 x.2)) ∧ (∀ b, F' b ↔ b = R ∨ lv2.ownBlock = some b ∨ wv.ownBlock = some b ∨ G b) ∧ Ext F w F' (w4.setCell ⟨R, 0, none⟩ lv2) := by
  subst h3
  have hRl := hk.lt
  have hs4 := hg.size
  have hsA : (w.alloc o).heap.size = w.heap.size + 1 := by simp
  have hlvl : ∀ b, lv.ownBlock = some b → b < w.heap.size := fun b e => ownsRow_lt hk.lan.row e
  have hwvl : ∀ b, wv.ownBlock = some b → b < w.heap.size := fun b e => ownsRow_lt hk.wai.row e
  have old : ∀ b, b < w.heap.size → lv.ownBlock ≠ some b → w4.heap[b]? = w.heap[b]? := fun b hb hne => by
    rw [hg.block b (by omega) (fun e => hne e.symm), Below.heap_alloc _ _ _ hb]
  have hR2 : lv2.ownBlock ≠ some R := fun e => by
    rcases hloc with h | h
    · exact hk.nR.1 (h ▸ e)
    · rw [h] at e; simp at e; omega
  have set : ∀ b, b ≠ R → (w4.setCell ⟨R, 0, none⟩ lv2).heap[b]? = w4.heap[b]? := fun b hne => heap_setCell_other _ _ _ _ hne
  have gkeep : ∀ b, G b → (w4.setCell ⟨R, 0, none⟩ lv2).heap[b]? = w.heap[b]? := fun b e => by
    rw [set b (fun e' => hk.nR.2.2 (e' ▸ e)), old b (hk.nG b e).2.2 (hk.nG b e).1]
  have hwl : ∀ b, wv.ownBlock = some b → lv.ownBlock ≠ some b := fun b e e2 => hk.nL b e2 e
  refine ⟨fun b => b = R ∨ lv2.ownBlock = some b ∨ wv.ownBlock = some b ∨ G b, ⟨?_, ⟨?_, ?_, ?_⟩, ?_, ⟨hR2, hk.nR.2⟩, ?_, ?_, ?_, hk.lft⟩, fun _ => Iff.rfl, ⟨⟨hg.os, hg.tape, hg.output, by simp [World.setCell]; omega, ?_⟩, ?_⟩⟩
  · have h1 := hk.top
    rw [← old R hRl hk.nR.1] at h1
    rw [heap_setCell_same _ R 0 _ _ lv2 h1]; rfl
  · rw [List.length_append, List.length_append, hk.lan.len]; rfl
  · rw [encRs_snoc _ _ _ _ hk.lan.len, List.length_append]
    exact ownsRow_keep ho (fun b hb => set b (fun e => hR2 (e ▸ hb)))
  · intro j y hy
    by_cases hj : j < rl.length
    · rw [List.getElem?_append_left hj] at hy
      obtain ⟨q1, q2, d', q3, q4, q5⟩ := hk.lan.dat j y hy
      exact ⟨q1, q2, d', by rw [List.getElem?_append_left (by rw [hk.lan.len]; exact hj)]; exact q3, rd_keep q4 (fun b hb => gkeep b (q5 b hb)), q5⟩
    · have hjl := (List.getElem?_eq_some_iff.1 hy).1
      simp at hjl
      obtain rfl : j = rl.length := by omega
      simp at hy
      subst hy
      obtain ⟨q1, q2, d', q3, q4, q5⟩ := hk.wai.dat i _ (lf_get hx)
      rw [hd] at q3; cases q3
      exact ⟨q1, q2, d, by rw [← hk.lan.len]; simp, rd_keep q4 (fun b hb => gkeep b (q5 b hb)), q5⟩
  · exact hk.wai.keep (fun b hb => by
      rcases hb with e | e
      · rw [set b (fun e' => hk.nR.2.1 (e' ▸ e)), old b (hwvl b e) (hwl b e)]
      · exact gkeep b e)
  · intro b e
    refine ⟨fun e2 => ?_, (hk.nG b e).2.1, by have := (hk.nG b e).2.2; simp [World.setCell]; omega⟩
    rcases hloc with h | h
    · exact (hk.nG b e).1 (h ▸ e2)
    · rw [h] at e2; simp at e2; have := (hk.nG b e).2.2; omega
  · intro b e e2
    rcases hloc with h | h
    · exact hk.nL b (h ▸ e) e2
    · rw [h] at e; simp at e; have := hwvl b e2; omega
  · intro s hs
    show upd D.M x.1 x.2 s = _
    rw [playR_snoc]
    unfold upd; split
    · show x.2 = splice (playR zro rl x.1) 0 x.2
      rw [splice_full (by rw [← hk.med _ hx1.1, hm _ hx1.1, hx1.2.1])]
    · exact hk.med s hs
  · intro b hb hf
    rw [set b (fun e => hf ((he b).2 (.inl e))), old b hb (fun e => hf ((he b).2 (.inr (.inl e))))]
  · rintro b (e | e | e | e)
    · exact .inl ((he b).2 (.inl e))
    · rcases hloc with h | h
      · exact .inl ((he b).2 (.inr (.inl (h ▸ e))))
      · rw [h] at e; simp at e; exact .inr (by omega)
    · exact .inl ((he b).2 (.inr (.inr (.inl e))))
    · exact .inl ((he b).2 (.inr (.inr (.inr e))))
/-- up again, with nothing waiting -/
theorem upped {w : World} {R : Nat} {lv wv : Value} {rl : List Rc} {ds es : List Value} {G : Nat → Prop} {D : Dsk} (hk : RkAt w R lv wv rl ds es G D) :
    RkAt (((w.setCell ⟨R, 1, none⟩ (.slice none 0 0)).setCell ⟨R, 2, none⟩ (.int .i64 (-1))).setCell ⟨R, 3, none⟩ (.bool false)) R lv (.slice none 0 0) rl ds [] G ⟨D.M, [], D.acts, false, 0, false⟩ := by
  have set : ∀ b, b ≠ R → (((w.setCell ⟨R, 1, none⟩ (.slice none 0 0)).setCell ⟨R, 2, none⟩ (.int .i64 (-1))).setCell ⟨R, 3, none⟩ (.bool false)).heap[b]? = w.heap[b]? := fun b hne => by rw [heap_setCell_other _ _ _ _ hne, heap_setCell_other _ _ _ _ hne, heap_setCell_other _ _ _ _ hne]
  refine ⟨?_, hk.lan.keep (fun b hb => set b (fun e => by subst e; exact hb.elim hk.nR.1 hk.nR.2.2)), ⟨rfl, ⟨rfl, .inl ⟨rfl, rfl⟩⟩, fun i x hx => by have h9 : ([] : List Rc)[i]? = some x := hx; simp at h9⟩, ⟨hk.nR.1, by simp [Value.ownBlock], hk.nR.2.2⟩, fun b e => ⟨(hk.nG b e).1, by simp [Value.ownBlock], by have := (hk.nG b e).2.2; simpa [World.setCell] using this⟩, by simp [Value.ownBlock], hk.med, by show 0 < _; omega⟩
  rw [heap_setCell_same _ R 3 _ _ _ (heap_setCell_same _ R 2 _ _ _ (heap_setCell_same _ R 1 _ _ _ hk.top))]; rfl
theorem RdB.mod2 {F : Nat → Prop} {w w' : World} {v : Value} {zs : List Bool} (h : RdB w v zs) (hm : Mod F w w') (hn : zs ≠ [] → ∀ b, v.ownBlock = some b → ¬ F b) : RdB w' v zs := by
  by_cases hz : zs = []
  · subst hz
    rcases h with ⟨rfl, _⟩ | ⟨x, cap, rfl, hc⟩
    · exact .inl ⟨rfl, rfl⟩
    · exact .inr ⟨x, cap, rfl, fun i u hu => by simp at hu⟩
  · exact h.mod hm (hn hz)
theorem RdB.blk {w : World} {v : Value} {zs : List Bool} (h : RdB w v zs) (hz : zs ≠ []) : ∀ b, v.ownBlock = some b → b < w.heap.size := by
  intro b hb
  rcases h with ⟨_, rfl⟩ | ⟨x, cap, rfl, hc⟩
  · exact absurd rfl hz
  · obtain ⟨y, ys, rfl⟩ := List.exists_cons_of_ne_nil hz
    have h1 := hc 0 _ rfl
    have h2 := World.block_lt_of_cell? w _ h1
    have hb2 : (x.add 0).block = x.block := by unfold Addr.add; split <;> simp_all
    have hb3 : x.block = b := by simpa [Value.ownBlock] using hb
    omega
set_option maxRecDepth 100000 in
set_option maxHeartbeats 6400000 in
theorem crashR_any {w : World} {R N : Nat} {D : Dsk} {F : Nat → Prop} (h : RkA R D N w F) (hD : D.Ok) (hN : N ≤ 2000000) (hc : D.c.length ≤ 2000000) (kv : Value) (ks : List Bool) (hr : RdB w kv ks) (hnF : ks ≠ [] → ∀ b, kv.ownBlock = some b → ¬ F b) :
    Calls Try.prog 23 #[tp R, kv] w fun e w' => e = .returned (.int .i64 ((keptTo (kp ks) D.c D.c.length).length : Nat)) ∧ ∃ F', RkA R (D.up.settled (kp ks)) (N + D.c.length) w' F' ∧ Ext F w F' w' := by
  obtain ⟨lv, wv, rl, ds, es, G, hk, hn, he⟩ := h
  obtain ⟨i3, hi3, hz3, hs3, hb3'⟩ := infoRec
  obtain ⟨ak, ck, rfl⟩ := hr.len
  obtain ⟨aw, cw, hwv⟩ := own_shape hk.wai.row
  have HRd := hide hr
  have HNF := hide hnF
  obtain ⟨L, hL⟩ : ∃ L, D.c.length = L := ⟨_, rfl⟩
  rw [lf_len, hL] at hwv
  rw [hL] at hc
  simp only [hL]
  have HL := hide hL
  have K0 : Hid (∃ lv' rl' ds' F', RkAt w R lv' wv rl' ds' es G (D.onM (play D.M (keptTo (kp ks) D.c 0))) ∧ rl'.length ≤ N + 0 ∧ (∀ b, F' b ↔ b = R ∨ lv'.ownBlock = some b ∨ wv.ownBlock = some b ∨ G b) ∧ Ext F w F' w) := hide ⟨lv, rl, ds, F, hk, hn, he, Ext.refl _ _⟩
  subst hwv
  clear hk hn he hr hnF hL
  go_enter Try.func23, Try.ntmps23
  go_wp2
  go_loopw [5, 6] (fun cnt x wr => ∃ k : Nat, k ≤ L ∧ x = .int .i64 (k : Int) ∧ cnt = .int .i64 ((keptTo (kp ks) D.c k).length : Nat) ∧ Hid (∃ lv' rl' ds' F', RkAt wr R lv' (.slice aw L cw) rl' ds' es G (D.onM (play D.M (keptTo (kp ks) D.c k))) ∧ rl'.length ≤ N + k ∧ (∀ b, F' b ↔ b = R ∨ lv'.ownBlock = some b ∨ (Value.slice aw L cw).ownBlock = some b ∨ G b) ∧ Ext F w F' wr)) (fun _ x _ => L - (intOf x).toNat)
  case atStart => exact ⟨0, by omega, rfl, rfl, K0⟩
  case round =>
  clear K0
  obtain ⟨k, hk, rfl, rfl, KK⟩ := hrel
  obtain ⟨lv', rl', ds', F', hR, hn', he', hX⟩ := KK.out
  have cw1 := hR.cells.2.1
  have fR := hR.cells.2.2.2.2.2
  have hkl := keptTo_len (kp ks) D.c k
  by_cases hlt : k < L
  · have hd : decide ((k : Int) < (L : Int)) = true := by simp; omega
    obtain ⟨x, hx⟩ : ∃ x, D.c[k]? = some x := ⟨_, List.getElem?_eq_getElem (by rw [HL.out]; exact hlt)⟩
    have hkv : RdB wr (.slice ak ks.length ck) ks := HRd.out.mod2 hX.mod HNF.out
    by_cases hp : kp ks k = true
    · have hks : k < ks.length := by
        by_cases e : k < ks.length
        · exact e
        · unfold kp at hp; rw [List.getD_eq_getElem?_getD, List.getElem?_eq_none (by omega)] at hp; simp at hp
      have hd2 : decide ((k : Int) < (ks.length : Int)) = true := by simp; omega
      have hd2' : (k : Int) < (ks.length : Int) := by omega
      obtain ⟨xk, rfl, hck⟩ : ∃ x, ak = some x ∧ wr.cell? (x.add k) = some (.bool true) := by
        rcases hkv with ⟨q1, rfl⟩ | ⟨x, c, q1, q2⟩
        · simp at hks
        · cases q1
          refine ⟨x, rfl, q2 k _ ?_⟩
          unfold kp at hp
          rw [List.getD_eq_getElem?_getD, List.getElem?_eq_getElem hks] at hp
          simp at hp
          simp [hks, hp]
      have HNx := hide (keptTo_yes hp hx)
      have HLen : Hid ((keptTo (kp ks) D.c (k + 1)).length = (keptTo (kp ks) D.c k).length + 1) := hide (by rw [HNx.out]; simp)
      obtain ⟨_, _, d, hdd, hrd, _⟩ := hR.wai.dat k _ (lf_get hx)
      have hdo : d.oneCell' = true := hR.wai.ones d (List.mem_of_getElem? hdd)
      have hrow := hR.wai.row
      obtain ⟨gw, rfl⟩ : ∃ gw, aw = some ⟨gw, 0, none⟩ := by
        obtain ⟨_, ⟨q0, _⟩ | ⟨g, cp, cur, q0, _⟩⟩ := hR.wai.row
        · injection q0 with _ q9 _; omega
        · cases q0; exact ⟨g, rfl⟩
      have g0 := World.ownsRow.cells hrow rfl _ _ (encRs_at _ es k 0 (x.1, 0, x.2) d _ (lf_get hx) hdd rfl)
      have g1 := World.ownsRow.cells hrow rfl _ _ (encRs_at _ es k 1 (x.1, 0, x.2) d _ (lf_get hx) hdd rfl)
      have g2 := World.ownsRow.cells hrow rfl _ _ (encRs_at _ es k 2 (x.1, 0, x.2) d _ (lf_get hx) hdd rfl)
      rw [add0] at g0 g1 g2
      rw [Nat.add_zero] at g0
      obtain ⟨w2, hw2⟩ : ∃ w2, w2 = wr.drew := ⟨_, rfl⟩
      have hdr : Below wr.heap.size wr w2 := by rw [hw2]; exact ⟨rfl, rfl, rfl, Nat.le_refl _, fun _ _ => rfl⟩
      have hR2 := hR.keep (w' := w2) hdr.size (fun b _ => by rw [hw2]; rfl)
      have hX2 := hX.trans (Ext.of_below (F := F') hdr)
      have HS : Hid (w2.cell? ⟨R, 1, none⟩ = some (.slice (some ⟨gw, 0, none⟩) L cw) ∧ w2.cell? ⟨gw, k * 3, none⟩ = some (.int .i64 (x.1 : Int)) ∧ w2.cell? ⟨gw, k * 3 + 1, none⟩ = some (.int .i64 0) ∧ w2.cell? ⟨gw, k * 3 + 2, none⟩ = some d) := by rw [hw2]; exact hide ⟨cw1, g0, g1, g2⟩
      have cl0 := hR2.cells.1
      have hnl : rl'.length ≤ 4000000 := by omega
      have HAll : Hid (∀ (lv2 : Value) (w4 : World), w4.ownsRow 0 51 3 lv2 (rl'.length + 1) (encRs rl' ds' ++ [.int .i64 (x.1 : Int), .int .i64 0, d]) → (w2.alloc (.cells #[.int .i64 (x.1 : Int), .int .i64 0, d] 51)).grownBy w4 lv'.ownBlock → (lv2.ownBlock = lv'.ownBlock ∨ lv2.ownBlock = some (w2.alloc (.cells #[.int .i64 (x.1 : Int), .int .i64 0, d] 51)).heap.size) →
          (w4.cell? ⟨R, 0, none⟩ = some lv' ∧ w4.frozen? ⟨R, 0, none⟩ = false) ∧ (∀ u, (∃ q1 q2 q3, u = Value.slice q1 q2 q3) → (w4.setCell ⟨R, 0, none⟩ u).cell? ⟨R, 1, none⟩ = some (.slice (some ⟨gw, 0, none⟩) L cw) ∧ (w4.setCell ⟨R, 0, none⟩ u).cell? ⟨gw, k * 3, none⟩ = some (.int .i64 (x.1 : Int)) ∧ (w4.setCell ⟨R, 0, none⟩ u).cell? ⟨gw, k * 3 + 1, none⟩ = some (.int .i64 0) ∧ (w4.setCell ⟨R, 0, none⟩ u).cell? ⟨gw, k * 3 + 2, none⟩ = some d) ∧
          (w4.cell? ⟨R, 1, none⟩ = some (.slice (some ⟨gw, 0, none⟩) L cw) ∧ w4.cell? ⟨gw, k * 3, none⟩ = some (.int .i64 (x.1 : Int)) ∧ w4.cell? ⟨gw, k * 3 + 1, none⟩ = some (.int .i64 0) ∧ w4.cell? ⟨gw, k * 3 + 2, none⟩ = some d) ∧
          ∃ lv3 rl3 ds3 F3, RkAt (w4.setCell ⟨R, 0, none⟩ lv2) R lv3 (.slice (some ⟨gw, 0, none⟩) L cw) rl3 ds3 es G (D.onM (play D.M (keptTo (kp ks) D.c (k + 1)))) ∧ rl3.length ≤ N + (k + 1) ∧ (∀ b, F3 b ↔ b = R ∨ lv3.ownBlock = some b ∨ (Value.slice (some ⟨gw, 0, none⟩) L cw).ownBlock = some b ∨ G b) ∧ Ext F w F3 (w4.setCell ⟨R, 0, none⟩ lv2)) := by
        refine hide (fun lv2 w4 ho hg hloc => ?_)
        have hRb : w4.heap[R]? = w2.heap[R]? := by
          have := hR2.lt
          rw [hg.block R (by simp; omega) (fun e => hR2.nR.1 e.symm), Below.heap_alloc _ _ _ hR2.lt]
        have hgl : gw < w2.heap.size := ownsRow_lt hR2.wai.row rfl
        have hgb : w4.heap[gw]? = w2.heap[gw]? := by
          rw [hg.block gw (by simp; omega) (fun e => hR2.nL gw e.symm rfl), Below.heap_alloc _ _ _ hgl]
        have hgR : gw ≠ R := fun e => hR2.nR.2.1 (by rw [e]; rfl)
        have ht := hR2.top
        rw [← hRb] at ht
        refine ⟨⟨by rw [World.cell?_of_block hRb]; exact cl0, by rw [World.frozen?_of_block hRb]; exact hR2.cells.2.2.2.2.2 0⟩, fun u _ => ⟨?_, ?_, ?_, ?_⟩, ⟨?_, ?_, ?_, ?_⟩, ?_⟩
        · rw [cell_of_row _ _ _ _ _ _ (heap_setCell_same _ R 0 _ _ u ht)]; rfl
        · rw [World.cell?_of_block (heap_setCell_other _ _ _ _ hgR), World.cell?_of_block hgb]; exact HS.out.2.1
        · rw [World.cell?_of_block (heap_setCell_other _ _ _ _ hgR), World.cell?_of_block hgb]; exact HS.out.2.2.1
        · rw [World.cell?_of_block (heap_setCell_other _ _ _ _ hgR), World.cell?_of_block hgb]; exact HS.out.2.2.2
        · rw [World.cell?_of_block hRb]; exact HS.out.1
        · rw [World.cell?_of_block hgb]; exact HS.out.2.1
        · rw [World.cell?_of_block hgb]; exact HS.out.2.2.1
        · rw [World.cell?_of_block hgb]; exact HS.out.2.2.2
        · obtain ⟨F3, p1, p2, p3⟩ := land1 hR2 he' rfl hx hdd (fun s hs => ((hD.mid (kp ks) k).m s hs).1) (hD.c x (List.mem_of_getElem? hx)) ho hg hloc
          refine ⟨lv2, rl' ++ [(x.1, 0, x.2)], ds' ++ [d], F3, ?_, by rw [List.length_append]; simp; omega, p2, hX2.trans p3⟩
          rw [HNx.out, play_snoc]
          exact p1
      have HRow := hide hR2.lan.row
      have cl3 : (w2.alloc (.cells #[.int .i64 (x.1 : Int), .int .i64 0, d] 51)).cell? ⟨R, 0, none⟩ = some lv' := cell_belowN ((Below.refl w2.heap.size w2).alloc (Nat.le_refl _) _) cl0
      have HS3 : Hid ((w2.alloc (.cells #[.int .i64 (x.1 : Int), .int .i64 0, d] 51)).cell? ⟨R, 1, none⟩ = some (.slice (some ⟨gw, 0, none⟩) L cw) ∧ (w2.alloc (.cells #[.int .i64 (x.1 : Int), .int .i64 0, d] 51)).cell? ⟨gw, k * 3, none⟩ = some (.int .i64 (x.1 : Int)) ∧ (w2.alloc (.cells #[.int .i64 (x.1 : Int), .int .i64 0, d] 51)).cell? ⟨gw, k * 3 + 1, none⟩ = some (.int .i64 0) ∧ (w2.alloc (.cells #[.int .i64 (x.1 : Int), .int .i64 0, d] 51)).cell? ⟨gw, k * 3 + 2, none⟩ = some d) := by
        have hbb : Below w2.heap.size w2 (w2.alloc (.cells #[.int .i64 (x.1 : Int), .int .i64 0, d] 51)) := (Below.refl w2.heap.size w2).alloc (Nat.le_refl _) _
        exact hide ⟨cell_belowN hbb HS.out.1, cell_belowN hbb HS.out.2.1, cell_belowN hbb HS.out.2.2.1, cell_belowN hbb HS.out.2.2.2⟩
      obtain ⟨nr, hnr⟩ : ∃ nr, rl'.length = nr := ⟨_, rfl⟩
      rw [hnr] at HRow HAll hnl
      clear hnr
      generalize (keptTo (kp ks) D.c k).length = cnt at *
      generalize ks.length = nk at *
      generalize x.1 = sc at *
      clear hR hR2 hX hX2 he' hn' hkv hx KK hp hrd hdd hrow hdr g0 g1 g2 HRd HNF fR
      go_upto_region 6 with fail
      refine wp_region_held_drew (S := fun W => W.cell? ⟨R, 1, none⟩ = some (.slice (some ⟨gw, 0, none⟩) L cw) ∧ W.cell? ⟨gw, k * 3, none⟩ = some (.int .i64 (sc : Int)) ∧ W.cell? ⟨gw, k * 3 + 1, none⟩ = some (.int .i64 0) ∧ W.cell? ⟨gw, k * 3 + 2, none⟩ = some d) (by kernel_rfl) (by rw [← hw2]; exact HS.out) (fun _ => ?_)
      rw [← hw2]
      clear hw2 cw1 hck
      refine hd_take 0 (o := ⟨some 26, _, _, _, _, _⟩) (tp R) (by kernel_rfl) (by kernel_rfl) (by kernel_rfl) rfl (by rfl) (fun W hSw => by go_simp) (fun _ _ _ h => h) HS.out ?_
      simp only [Act.put, List.setIfInBounds_toArray, List.set_cons_zero, List.set_cons_succ]
      refine hd_take 1 (o := ⟨some 27, _, _, _, _, _⟩) (tp R) (by kernel_rfl) (by kernel_rfl) (by kernel_rfl) rfl (by rfl) (fun W hSw => by go_simp) (fun _ _ _ h => h) HS.out ?_
      simp only [Act.put, List.setIfInBounds_toArray, List.set_cons_zero, List.set_cons_succ]
      refine hd_take 2 (o := ⟨some 28, _, _, _, _, _⟩) (.pointer (some ⟨R, 0, none⟩)) (by kernel_rfl) (by kernel_rfl) (by kernel_rfl) rfl (by rfl) (fun W hSw => by go_simp) (fun _ _ _ h => h) HS.out ?_
      simp only [Act.put, List.setIfInBounds_toArray, List.set_cons_zero, List.set_cons_succ]
      refine hd_take 3 (o := ⟨some 29, _, _, _, _, _⟩) (.pointer (some ⟨R, 0, none⟩)) (by kernel_rfl) (by kernel_rfl) (by kernel_rfl) rfl (by rfl) (fun W hSw => by go_simp) (fun _ _ _ h => h) HS.out ?_
      simp only [Act.put, List.setIfInBounds_toArray, List.set_cons_zero, List.set_cons_succ]
      refine hd_take 5 (o := ⟨some 31, _, _, _, _, _⟩) (tp R) (by kernel_rfl) (by kernel_rfl) (by kernel_rfl) rfl (by rfl) (fun W hSw => by go_simp) (fun _ _ _ h => h) HS.out ?_
      simp only [Act.put, List.setIfInBounds_toArray, List.set_cons_zero, List.set_cons_succ]
      refine hd_take 6 (o := ⟨some 32, _, _, _, _, _⟩) (.pointer (some ⟨R, 0, none⟩)) (by kernel_rfl) (by kernel_rfl) (by kernel_rfl) rfl (by rfl) (fun W hSw => by go_simp) (fun _ _ _ h => h) HS.out ?_
      simp only [Act.put, List.setIfInBounds_toArray, List.set_cons_zero, List.set_cons_succ]
      refine hd_take 7 (o := ⟨some 33, _, _, _, _, _⟩) (.pointer (some ⟨R, 1, none⟩)) (by kernel_rfl) (by kernel_rfl) (by kernel_rfl) rfl (by rfl) (fun W hSw => by go_simp) (fun _ _ _ h => h) HS.out ?_
      simp only [Act.put, List.setIfInBounds_toArray, List.set_cons_zero, List.set_cons_succ]
      refine hd_take 8 (o := ⟨some 34, _, _, _, _, _⟩) (.slice (some ⟨gw, 0, none⟩) L cw) (by kernel_rfl) (by kernel_rfl) (by kernel_rfl) rfl (by rfl) (fun W hSw => by obtain ⟨q0, q1, q2, q3⟩ := hSw; go_simp) (fun _ _ _ h => h) HS.out ?_
      simp only [Act.put, List.setIfInBounds_toArray, List.set_cons_zero, List.set_cons_succ]
      refine hd_take 9 (o := ⟨some 35, _, _, _, _, _⟩) (.int .i64 (k : Int)) (by kernel_rfl) (by kernel_rfl) (by kernel_rfl) rfl (by rfl) (fun W hSw => by go_simp) (fun _ _ _ h => h) HS.out ?_
      simp only [Act.put, List.setIfInBounds_toArray, List.set_cons_zero, List.set_cons_succ]
      refine hd_take 10 (o := ⟨some 36, _, _, _, _, _⟩) (.pointer (some ⟨gw, k * 3, none⟩)) (by kernel_rfl) (by kernel_rfl) (by kernel_rfl) rfl (by rfl) (fun W hSw => by go_simp <;> omega) (fun _ _ _ h => h) HS.out ?_
      simp only [Act.put, List.setIfInBounds_toArray, List.set_cons_zero, List.set_cons_succ]
      refine hd_take 11 (o := ⟨some 37, _, _, _, _, _⟩) (.agg #[.int .i64 (sc : Int), .int .i64 0, d]) (by kernel_rfl) (by kernel_rfl) (by kernel_rfl) rfl (by rfl) (fun W hSw => by obtain ⟨q0, q1, q2, q3⟩ := hSw; go_simp) (fun _ _ _ h => h) HS.out ?_
      simp only [Act.put, List.setIfInBounds_toArray, List.set_cons_zero, List.set_cons_succ]
      refine hd_both 4 12 (o1 := ⟨some 30, _, _, _, _, _⟩) (o2 := ⟨some 38, _, _, _, _, _⟩) (by kernel_rfl) rfl rfl (by rfl) (by rfl) (fun K' hK => ?_) (fun K' hK => ?_)
      · go_simp
        refine hK _ _ HS.out ?_
        clear hK K'
        try simp only [Act.put, List.setIfInBounds_toArray, List.set_cons_zero, List.set_cons_succ]
        refine hd_call 12 (o := ⟨some 38, _, _, _, _, _⟩) (by kernel_rfl) rfl (by rfl) (fun K' hK => ?_)
        go_simp
        refine hK _ _ HS3.out ?_
        clear hK K'
        try simp only [Act.put, List.setIfInBounds_toArray, List.set_cons_zero, List.set_cons_succ]
        refine hd_call 13 (o := ⟨some 39, _, _, _, _, _⟩) (by kernel_rfl) rfl (by rfl) (fun K' hK => ?_)
        refine oper_append _ _ 46 rfl 0 51 i3 (.agg #[.int .i64 0, .int .i64 0, .slice none 0 0]) 3 40 Try.underlying46 hi3 hz3 hs3 hb3' rfl (by decide) lv' nr (encRs rl' ds') rfl (HRow.out.alloc _) ⟨w2.heap.size, 0, none⟩ 1 1 [.int .i64 (sc : Int), .int .i64 0, d] rfl rfl (cell_three_new _ _ _ _ _) (by simpa [Value.oneCell'] using hdo) (by unfold maxLen; omega) (by omega) (by omega) (fun lv2 w4 ho4 hg4 hl4 => ?_)
        obtain ⟨⟨k0, k1⟩, kS, k2, hfin⟩ := HAll.out lv2 w4 ho4 hg4 hl4
        have HE := hide hfin
        have HKS := hide kS
        obtain ⟨a2, c2', rfl⟩ := own_shape ho4
        clear ho4 hg4 hl4 hfin kS
        refine hK _ _ k2 ?_
        clear hK K'
        try simp only [Act.put, List.setIfInBounds_toArray, List.set_cons_zero, List.set_cons_succ]
        refine hd_call 14 (o := ⟨some 40, _, _, _, _, _⟩) (by kernel_rfl) rfl (by rfl) (fun K' hK => ?_)
        go_simp
        refine hK _ _ k2 ?_
        clear hK K'
        try simp only [Act.put, List.setIfInBounds_toArray, List.set_cons_zero, List.set_cons_succ]
        refine hd_call 15 (o := ⟨some 41, _, _, _, _, _⟩) (by kernel_rfl) rfl (by rfl) (fun K' hK => ?_)
        go_simp
        refine hK _ _ k2 ?_
        clear hK K'
        try simp only [Act.put, List.setIfInBounds_toArray, List.set_cons_zero, List.set_cons_succ]
        refine hd_call 16 (o := ⟨none, _, _, _, _, _⟩) (by kernel_rfl) rfl (by rfl) (fun K' hK => ?_)
        go_simp
        refine hK _ _ (HKS.out _ ⟨_, _, _, rfl⟩) ?_
        clear hK K'
        try simp only [Act.put, List.setIfInBounds_toArray, List.set_cons_zero, List.set_cons_succ]
        refine wpAnyH_done (by kernel_rfl) ?_ _
        clear k0 k1 k2 HKS HS HS3 cl0 cl3 HAll HRow
        generalize w4.setCell ⟨R, 0, none⟩ _ = w5 at *
        go_wp2
        go_roundw
        case rel =>
          first
            | exact ⟨k + 1, by omega, by go_num, by rw [HLen.out]; go_num, HE⟩
            | ((repeat apply Exists.intro); refine ⟨?_, rfl⟩; exact ⟨k + 1, by omega, by go_num, by rw [HLen.out]; go_num, HE⟩)
        case measure => simp [intOf]; omega
      · go_simp
        refine hK _ _ HS3.out ?_
        clear hK K'
        try simp only [Act.put, List.setIfInBounds_toArray, List.set_cons_zero, List.set_cons_succ]
        refine hd_call 4 (o := ⟨some 30, _, _, _, _, _⟩) (by kernel_rfl) rfl (by rfl) (fun K' hK => ?_)
        go_simp
        refine hK _ _ HS3.out ?_
        clear hK K'
        try simp only [Act.put, List.setIfInBounds_toArray, List.set_cons_zero, List.set_cons_succ]
        refine hd_call 13 (o := ⟨some 39, _, _, _, _, _⟩) (by kernel_rfl) rfl (by rfl) (fun K' hK => ?_)
        refine oper_append _ _ 46 rfl 0 51 i3 (.agg #[.int .i64 0, .int .i64 0, .slice none 0 0]) 3 40 Try.underlying46 hi3 hz3 hs3 hb3' rfl (by decide) lv' nr (encRs rl' ds') rfl (HRow.out.alloc _) ⟨w2.heap.size, 0, none⟩ 1 1 [.int .i64 (sc : Int), .int .i64 0, d] rfl rfl (cell_three_new _ _ _ _ _) (by simpa [Value.oneCell'] using hdo) (by unfold maxLen; omega) (by omega) (by omega) (fun lv2 w4 ho4 hg4 hl4 => ?_)
        obtain ⟨⟨k0, k1⟩, kS, k2, hfin⟩ := HAll.out lv2 w4 ho4 hg4 hl4
        have HE := hide hfin
        have HKS := hide kS
        obtain ⟨a2, c2', rfl⟩ := own_shape ho4
        clear ho4 hg4 hl4 hfin kS
        refine hK _ _ k2 ?_
        clear hK K'
        try simp only [Act.put, List.setIfInBounds_toArray, List.set_cons_zero, List.set_cons_succ]
        refine hd_call 14 (o := ⟨some 40, _, _, _, _, _⟩) (by kernel_rfl) rfl (by rfl) (fun K' hK => ?_)
        go_simp
        refine hK _ _ k2 ?_
        clear hK K'
        try simp only [Act.put, List.setIfInBounds_toArray, List.set_cons_zero, List.set_cons_succ]
        refine hd_call 15 (o := ⟨some 41, _, _, _, _, _⟩) (by kernel_rfl) rfl (by rfl) (fun K' hK => ?_)
        go_simp
        refine hK _ _ k2 ?_
        clear hK K'
        try simp only [Act.put, List.setIfInBounds_toArray, List.set_cons_zero, List.set_cons_succ]
        refine hd_call 16 (o := ⟨none, _, _, _, _, _⟩) (by kernel_rfl) rfl (by rfl) (fun K' hK => ?_)
        go_simp
        refine hK _ _ (HKS.out _ ⟨_, _, _, rfl⟩) ?_
        clear hK K'
        try simp only [Act.put, List.setIfInBounds_toArray, List.set_cons_zero, List.set_cons_succ]
        refine wpAnyH_done (by kernel_rfl) ?_ _
        clear k0 k1 k2 HKS HS HS3 cl0 cl3 HAll HRow
        generalize w4.setCell ⟨R, 0, none⟩ _ = w5 at *
        go_wp2
        go_roundw
        case rel =>
          first
            | exact ⟨k + 1, by omega, by go_num, by rw [HLen.out]; go_num, HE⟩
            | ((repeat apply Exists.intro); refine ⟨?_, rfl⟩; exact ⟨k + 1, by omega, by go_num, by rw [HLen.out]; go_num, HE⟩)
        case measure => simp [intOf]; omega
    · have hpf : kp ks k = false := by simpa using hp
      have HNx := hide (keptTo_no (c := D.c) hpf)
      have HN2 : Hid (∃ lv' rl' ds' F', RkAt wr R lv' (.slice aw L cw) rl' ds' es G (D.onM (play D.M (keptTo (kp ks) D.c (k + 1)))) ∧ rl'.length ≤ N + (k + 1) ∧ (∀ b, F' b ↔ b = R ∨ lv'.ownBlock = some b ∨ (Value.slice aw L cw).ownBlock = some b ∨ G b) ∧ Ext F w F' wr) := hide ⟨lv', rl', ds', F', by rw [HNx.out]; exact hR, by omega, he', hX⟩
      by_cases hks : k < ks.length
      · have hd2 : decide ((k : Int) < (ks.length : Int)) = true := by simp; omega
        have hd2' : (k : Int) < (ks.length : Int) := by omega
        obtain ⟨xk, rfl, hck⟩ : ∃ x, ak = some x ∧ wr.cell? (x.add k) = some (.bool false) := by
          rcases hkv with ⟨q1, rfl⟩ | ⟨x, c, q1, q2⟩
          · simp at hks
          · cases q1
            refine ⟨x, rfl, q2 k _ ?_⟩
            unfold kp at hpf
            rw [List.getD_eq_getElem?_getD, List.getElem?_eq_getElem hks] at hpf
            simp at hpf
            simp [hks, hpf]
        generalize ks.length = nk at *
        clear hR hX he' hn' hkv hx KK hp
        go_wp2
        go_roundw
        case rel =>
          first
            | exact ⟨k + 1, by omega, by go_num, by rw [HNx.out], HN2⟩
            | ((repeat apply Exists.intro); refine ⟨?_, rfl⟩; exact ⟨k + 1, by omega, by go_num, by rw [HNx.out], HN2⟩)
        case measure => simp [intOf]; omega
      · have hd2 : decide ((k : Int) < (ks.length : Int)) = false := by simp; omega
        clear hR hX he' hn' hkv hx KK hp
        generalize ks.length = nk at *
        go_wp2
        go_roundw
        case rel =>
          first
            | exact ⟨k + 1, by omega, by go_num, by rw [HNx.out], HN2⟩
            | ((repeat apply Exists.intro); refine ⟨?_, rfl⟩; exact ⟨k + 1, by omega, by go_num, by rw [HNx.out], HN2⟩)
        case measure => simp [intOf]; omega
  · obtain rfl : k = L := by omega
    have hd : decide ((k : Int) < (k : Int)) = false := by simp
    have c2 := hR.cells.2.2.1
    have c3 := hR.cells.2.2.2.1
    have f1 := fR 1
    have f2 := fR 2
    have f3 := fR 3
    have HF : Hid (∃ F'', RkA R (D.up.settled (kp ks)) (N + k) (((wr.setCell ⟨R, 1, none⟩ (.slice none 0 0)).setCell ⟨R, 2, none⟩ (.int .i64 (-1))).setCell ⟨R, 3, none⟩ (.bool false)) F'' ∧ Ext F w F'' (((wr.setCell ⟨R, 1, none⟩ (.slice none 0 0)).setCell ⟨R, 2, none⟩ (.int .i64 (-1))).setCell ⟨R, 3, none⟩ (.bool false))) := by
      have hu := upped hR
      have hD : (⟨(D.onM (play D.M (keptTo (kp ks) D.c k))).M, [], (D.onM (play D.M (keptTo (kp ks) D.c k))).acts, false, 0, false⟩ : Dsk) = D.up.settled (kp ks) := by
        show (⟨play D.M (keptTo (kp ks) D.c k), [], D.acts, false, 0, false⟩ : Dsk) = ⟨play D.M (keptTo (kp ks) D.c D.c.length), [], D.acts, false, 0, false⟩
        rw [HL.out]
      rw [hD] at hu
      have hRF := (he' R).2 (.inl rfl)
      refine hide ⟨fun b => b = R ∨ lv'.ownBlock = some b ∨ (Value.slice none 0 0).ownBlock = some b ∨ G b, ⟨lv', .slice none 0 0, rl', ds', [], G, hu, hn', fun b => Iff.rfl⟩, hX.trans ⟨(((Mod.refl _ _).setCell (.inl hRF) _).setCell (.inl hRF) _).setCell (.inl hRF) _, fun b hb => .inl ((he' b).2 ?_)⟩⟩
      rcases hb with e | e | e | e
      · exact .inl e
      · exact .inr (.inl e)
      · simp [Value.ownBlock] at e
      · exact .inr (.inr (.inr e))
    generalize (D.onM (play D.M (keptTo (kp ks) D.c k))).ar = ar at *
    generalize (D.onM (play D.M (keptTo (kp ks) D.c k))).down = dn at *
    clear hR hX he' hn' KK fR
    go_upto_region 11 with fail
    generalize ((wr.setCell ⟨R, 1, none⟩ (.slice none 0 0)).setCell ⟨R, 2, none⟩ (.int .i64 (-1))).setCell ⟨R, 3, none⟩ (.bool false) = w9 at *
    go_wp2
    go_ret
    exact ⟨rfl, HF.out⟩
end Go.Proofs.Ytnpklhjndominaa
