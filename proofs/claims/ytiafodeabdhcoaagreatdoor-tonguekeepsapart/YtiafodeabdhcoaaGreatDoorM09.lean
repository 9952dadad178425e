import Derived.Test.YtiafodeabdhcoaaGreatDoorM08
namespace Go.Proofs.YtiafodeabdhcoaaGreatDoor
open Go.RowKit
def SlPost (w : World) (g : Nat) (ts : List Tk) (F : Fx) (q : Option Sl × Rd) (e : Ending) (w' : World) : Prop := ∃ v, e = .returned v ∧ LsO w' q.1 (New w) v ∧ RdA w' g ts F q.2 ∧ Kp g w w'
def StOPost (w : World) (g : Nat) (ts : List Tk) (F : Fx) (q : Option Sl × Rd) (e : Ending) (w' : World) : Prop := ∃ s, q.1 = some s ∧ s.next = none ∧ StPost w g ts F (s, q.2) e w'
structure Pre (n : Nat) (w : World) (g : Nat) (ts : List Tk) (F : Fx) (r : Rd) : Prop where
  a : RdA w g ts F r
  l : Lg w
  g9 : 9 ≤ g
  n7 : n ≤ 70000
  b : r.blocks + n ≤ 1000000
  p : r.loops + n ≤ 1000000
def StmtsC (n : Nat) : Prop := ∀ (w : World) (g : Nat) (ts : List Tk) (F : Fx) (r : Rd), Pre n w g ts F r → 4 * (ts.length - r.at') + 4 ≤ n → Calls Tryz.prog 53 #[.pointer (some ⟨g, 0, none⟩)] w (SlPost w g ts F (psF ts n 0 r))
def BlockC (n : Nat) : Prop := ∀ (w : World) (g : Nat) (ts : List Tk) (F : Fx) (r : Rd), Pre n w g ts F r → 4 * (ts.length - (r.enter ts).at') + 5 ≤ n → Calls Tryz.prog 85 #[.pointer (some ⟨g, 0, none⟩)] w (SlPost w g ts F (psF ts n 1 r))
def ChoiceC (n : Nat) : Prop := ∀ (w : World) (g : Nat) (ts : List Tk) (F : Fx) (r : Rd), Pre n w g ts F r → (r.see ts).text = [105, 102] → 4 * (ts.length - r.at') + 2 ≤ n → Calls Tryz.prog 81 #[.pointer (some ⟨g, 0, none⟩)] w (StOPost w g ts F (psF ts n 2 r))
def LoopC (n : Nat) : Prop := ∀ (w : World) (g : Nat) (ts : List Tk) (F : Fx) (r : Rd), Pre n w g ts F r → (r.see ts).text = [119, 104, 105, 108, 101] → 4 * (ts.length - r.at') + 2 ≤ n → Calls Tryz.prog 82 #[.pointer (some ⟨g, 0, none⟩)] w (StOPost w g ts F (psF ts n 3 r))
theorem ps_block (ts : List Tk) (n : Nat) (r : Rd) : psF ts (n + 1) 1 r = ((psF ts n 0 (r.enter ts)).1, ((psF ts n 0 (r.enter ts)).2).leave ts) := by simp only [psF]
set_option maxRecDepth 100000 in
set_option maxHeartbeats 4000000 in
theorem block_step (n : Nat) (hS : StmtsC n) : BlockC (n + 1) := by
  intro w g ts F r hP hn
  rw [ps_block]
  have h := hP.a
  have hg9 := hP.g9
  have hn7 := hP.n7
  have hpb := hP.b
  have hpp := hP.p
  have HSe := hide (see_any w g ts F r h)
  have hgl := h.b.lt
  have HR := hide h
  have HG := hide hP.l
  obtain ⟨e1, e2, e3, e4, e5, e6, e7⟩ := enter_fr (ts := ts) r
  have hfs := fr_ps (ts := ts) n 0 (r.enter ts)
  have HE : Hid (r.enter ts = { (if 16 ≤ (r.take ts [123]).blocks then (r.take ts [123]).ndep (r.see ts).line else r.take ts [123]) with blocks := (if 16 ≤ (r.take ts [123]).blocks then (r.take ts [123]).ndep (r.see ts).line else r.take ts [123]).blocks + 1 }) := hide rfl
  have HSt := hide (fun W (hW : Pre n W g ts F (r.enter ts)) => hS W g ts F (r.enter ts) hW (by omega))
  have hbl : (r.take ts [123]).blocks ≤ 1000000 := by have := (fr_take (ts := ts) r [123]).blocks; omega
  have hq1 : (r.enter ts).blocks + n ≤ 1000000 := by omega
  have hq2 : (r.enter ts).loops + n ≤ 1000000 := by omega
  have hb2i : ((psF ts n 0 (r.enter ts)).2.blocks : Int) ≤ 1000000 := by have := hfs.blocks; omega
  have hb2p : (1 : Int) ≤ ((psF ts n 0 (r.enter ts)).2.blocks : Int) := by have := hfs.blocks; omega
  clear h hP e1 e2 e3 e4 e5 e6 e7 hfs
  generalize r.enter ts = re at *
  generalize psF ts n 0 re = q at *
  obtain ⟨b1, r2⟩ := q
  simp only at HSt hb2i hb2p ⊢
  obtain ⟨t, ht⟩ : ∃ t, r.see ts = t := ⟨_, rfl⟩
  rw [ht] at HSe HE
  obtain ⟨tk, tx, tv, tl⟩ := t
  simp only [tkL] at HSe HE
  clear ht
  go_enter Tryz.func85, Tryz.ntmps85
  go_wp2_with fail
  refine HSe.out.mono ?_
  rintro e w1 ⟨rfl, hb1⟩
  have HA1 := hide (HR.out.keep hb1)
  have HK1 := hide (Kp.of (g := g) hb1)
  clear hb1 HSe
  go_upto_region 2 with fail
  have HT2 : Hid (Blk (w1.alloc (.cells #[.int .i64 (tk : Nat), .string ⟨tx.toArray⟩, .int .u32 (tv : Nat), .int .i64 (tl : Nat)] 115)) w1.heap.size 115 (tkL ⟨tk, tx, tv, tl⟩)) := hide ⟨heap_alloc_new _ _⟩
  have hb2 := bel1 w1 (.cells #[.int .i64 (tk : Nat), .string ⟨tx.toArray⟩, .int .u32 (tv : Nat), .int .i64 (tl : Nat)] 115)
  have HK2 := hide (HK1.out.trans (Kp.of hb2))
  have HA2 := hide (HA1.out.keep hb2)
  have hgN : g < w1.heap.size := HA1.out.b.lt
  clear hb2 HK1 HA1
  generalize w1.alloc (.cells #[.int .i64 (tk : Nat), .string ⟨tx.toArray⟩, .int .u32 (tv : Nat), .int .i64 (tl : Nat)] 115) = W2 at *
  generalize w1.heap.size = N1 at *
  have HTa := hide (take_any W2 g ts F r [123] (by decide) HA2.out)
  go_wp2_with fail
  refine HTa.out.mono ?_
  rintro e w3 ⟨rfl, hA3, hk3⟩
  have HK3 := hide (HK2.out.trans hk3)
  have HT3 := hide (HT2.out.keepK hk3 (by omega))
  have b9 := hA3.b.get (j := 9) rfl
  have HA3 := hide hA3
  clear hA3 hk3 HK2 HT2 HA2 HTa
  generalize hr1 : r.take ts [123] = r1 at *
  by_cases h16 : 16 ≤ r1.blocks
  · have h16i : (16 : Int) ≤ (r1.blocks : Int) := by omega
    rw [if_pos h16] at HE
    have HN := hide (note_any w3 g ts F r1 3 tl 3 rfl (by decide) HA3.out)
    change Hid (Calls _ _ _ w3 fun e w' => e = .returned (.tuple #[]) ∧ RdA w' g ts F (r1.ndep tl) ∧ Kp g w3 w') at HN
    have t3 := HT3.out.get (j := 3) rfl
    simp only at t3
    have hnb : (r1.ndep tl).blocks ≤ 1000000 := by rw [(fr_dep r1 tl).blocks]; omega
    clear h16
    go_wp2_with fail
    refine HN.out.mono ?_
    rintro e w4 ⟨rfl, hA4, hk4⟩
    have HA4 := hide hA4
    have HK4 := hide (HK3.out.trans hk4)
    clear hA4 hk4 HN HK3 HT3 HA3 b9 t3
    generalize r1.ndep tl = r1' at *
    have b9 := HA4.out.b.get (j := 9) rfl
    have f9 := HA4.out.b.frz 9
    have HA5 : Hid (RdA (w4.setCell ⟨g, 9, none⟩ (.int .i64 ((r1'.blocks : Int) + 1))) g ts F re) := hide (by rw [HE.out]; exact HA4.out.to (Kp.set (Kp.refl g w4) _) (HA4.out.b.set 9 _) rfl HA4.out.hat)
    have HK5 := hide (Kp.set (j := 9) HK4.out (.int .i64 ((r1'.blocks : Int) + 1)))
    clear HK4 HA4
    go_upto_region 6 with fail
    clear b9 f9
    generalize w4.setCell ⟨g, 9, none⟩ (.int .i64 ((r1'.blocks : Int) + 1)) = W5 at *
    have HS5 := hide (HSt.out W5 ⟨HA5.out, HG.out.keepK HK5.out hg9, hg9, by omega, hq1, hq2⟩)
    go_wp2_with fail
    refine HS5.out.mono ?_
    rintro e w6 ⟨v, rfl, hL6, hA6, hk6⟩
    have HL6 := hide hL6
    have HK6 := hide (HK5.out.trans hk6)
    have hs5 := HK5.out.size
    have b9 := hA6.b.get (j := 9) rfl
    have f9 := hA6.b.frz 9
    have HA7 : Hid (RdA (w6.setCell ⟨g, 9, none⟩ (.int .i64 ((r2.blocks : Int) - 1))) g ts F { r2 with blocks := r2.blocks - 1 }) := hide (by
      have e : ((r2.blocks - 1 : Nat) : Int) = (r2.blocks : Int) - 1 := by omega
      rw [← e]
      exact hA6.to (Kp.set (Kp.refl g w6) _) (hA6.b.set 9 _) rfl hA6.hat)
    have HK7 := hide (Kp.set (j := 9) HK6.out (.int .i64 ((r2.blocks : Int) - 1)))
    have HL7 := hide (HL6.out.setN (N := g) (j := 9) (fun k (hk : W5.heap.size ≤ k) => by show k ≠ g; omega) (.int .i64 ((r2.blocks : Int) - 1)))
    clear hL6 hA6 hk6 HS5 HA5 HK5 HL6 HK6
    go_upto_region 8 with fail
    clear b9 f9
    generalize w6.setCell ⟨g, 9, none⟩ (.int .i64 ((r2.blocks : Int) - 1)) = W7 at *
    have HT8 := hide (take_any W7 g ts F { r2 with blocks := r2.blocks - 1 } [125] (by decide) HA7.out)
    change Hid (Calls _ _ _ W7 fun e w' => e = .returned (.tuple #[]) ∧ RdA w' g ts F (r2.leave ts) ∧ Kp g W7 w') at HT8
    go_wp2_with fail
    refine HT8.out.mono ?_
    rintro e w8 ⟨rfl, hA8, hk8⟩
    have HL8 := hide (HL7.out.keepK hk8 (fun k (hk : W5.heap.size ≤ k) => by show k ≠ g; omega))
    have HK8 := hide (HK7.out.trans hk8)
    have HA8 := hide hA8
    clear hA8 hk8 HT8 HA7 HK7 HL7
    go_wp2
    go_ret
    exact ⟨_, rfl, HL8.out.mono (fun k hk => Nat.le_trans hs5 hk), HA8.out, HK8.out⟩
  · have h16i : ¬ (16 : Int) ≤ (r1.blocks : Int) := by omega
    rw [if_neg h16] at HE
    clear h16 HT3
    go_upto_region 5 with fail
    generalize w3 = w4 at *
    have HA4 := HA3
    have HK4 := HK3
    clear HA3 HK3
    have b9 := HA4.out.b.get (j := 9) rfl
    have f9 := HA4.out.b.frz 9
    have HA5 : Hid (RdA (w4.setCell ⟨g, 9, none⟩ (.int .i64 ((r1.blocks : Int) + 1))) g ts F re) := hide (by rw [HE.out]; exact HA4.out.to (Kp.set (Kp.refl g w4) _) (HA4.out.b.set 9 _) rfl HA4.out.hat)
    have HK5 := hide (Kp.set (j := 9) HK4.out (.int .i64 ((r1.blocks : Int) + 1)))
    clear HK4 HA4
    go_upto_region 6 with fail
    clear b9 f9
    generalize w4.setCell ⟨g, 9, none⟩ (.int .i64 ((r1.blocks : Int) + 1)) = W5 at *
    have HS5 := hide (HSt.out W5 ⟨HA5.out, HG.out.keepK HK5.out hg9, hg9, by omega, hq1, hq2⟩)
    go_wp2_with fail
    refine HS5.out.mono ?_
    rintro e w6 ⟨v, rfl, hL6, hA6, hk6⟩
    have HL6 := hide hL6
    have HK6 := hide (HK5.out.trans hk6)
    have hs5 := HK5.out.size
    have b9 := hA6.b.get (j := 9) rfl
    have f9 := hA6.b.frz 9
    have HA7 : Hid (RdA (w6.setCell ⟨g, 9, none⟩ (.int .i64 ((r2.blocks : Int) - 1))) g ts F { r2 with blocks := r2.blocks - 1 }) := hide (by
      have e : ((r2.blocks - 1 : Nat) : Int) = (r2.blocks : Int) - 1 := by omega
      rw [← e]
      exact hA6.to (Kp.set (Kp.refl g w6) _) (hA6.b.set 9 _) rfl hA6.hat)
    have HK7 := hide (Kp.set (j := 9) HK6.out (.int .i64 ((r2.blocks : Int) - 1)))
    have HL7 := hide (HL6.out.setN (N := g) (j := 9) (fun k (hk : W5.heap.size ≤ k) => by show k ≠ g; omega) (.int .i64 ((r2.blocks : Int) - 1)))
    clear hL6 hA6 hk6 HS5 HA5 HK5 HL6 HK6
    go_upto_region 8 with fail
    clear b9 f9
    generalize w6.setCell ⟨g, 9, none⟩ (.int .i64 ((r2.blocks : Int) - 1)) = W7 at *
    have HT8 := hide (take_any W7 g ts F { r2 with blocks := r2.blocks - 1 } [125] (by decide) HA7.out)
    change Hid (Calls _ _ _ W7 fun e w' => e = .returned (.tuple #[]) ∧ RdA w' g ts F (r2.leave ts) ∧ Kp g W7 w') at HT8
    go_wp2_with fail
    refine HT8.out.mono ?_
    rintro e w8 ⟨rfl, hA8, hk8⟩
    have HL8 := hide (HL7.out.keepK hk8 (fun k (hk : W5.heap.size ≤ k) => by show k ≠ g; omega))
    have HK8 := hide (HK7.out.trans hk8)
    have HA8 := hide hA8
    clear hA8 hk8 HT8 HA7 HK7 HL7
    go_wp2
    go_ret
    exact ⟨_, rfl, HL8.out.mono (fun k hk => Nat.le_trans hs5 hk), HA8.out, HK8.out⟩
end Go.Proofs.YtiafodeabdhcoaaGreatDoor

namespace Go.Proofs.YtiafodeabdhcoaaGreatDoor
open Go.RowKit
theorem ls_shape {w : World} {o : Option Sl} {X : Nat → Prop} {v : Value} (h : LsO w o X v) : ∃ a n c, v = .slice a n c := by
  match o, h with
  | none, h => exact ⟨_, _, _, h⟩
  | some b, ⟨a, c, N, e1, _⟩ => exact ⟨_, _, _, e1⟩
theorem take_is {ts : List Tk} {r : Rd} {s : Tx} (h : (r.see ts).text = s) : r.take ts s = r.step := by unfold Rd.take Rd.is; rw [h]; simp
theorem ps_loop (ts : List Tk) (n : Nat) (r : Rd) : psF ts (n + 1) 3 r = (some { Sl.of [119, 104, 105, 108, 101] with val := some (Rd.whole ts (r.take ts [119, 104, 105, 108, 101])).1, body := (psF ts n 1 { (Rd.whole ts (r.take ts [119, 104, 105, 108, 101])).2 with loops := (Rd.whole ts (r.take ts [119, 104, 105, 108, 101])).2.loops + 1 }).1 },
    { (psF ts n 1 { (Rd.whole ts (r.take ts [119, 104, 105, 108, 101])).2 with loops := (Rd.whole ts (r.take ts [119, 104, 105, 108, 101])).2.loops + 1 }).2 with loops := (psF ts n 1 { (Rd.whole ts (r.take ts [119, 104, 105, 108, 101])).2 with loops := (Rd.whole ts (r.take ts [119, 104, 105, 108, 101])).2.loops + 1 }).2.loops - 1 }) := by simp only [psF]
set_option maxRecDepth 100000 in
set_option maxHeartbeats 4000000 in
theorem loop_step (n : Nat) (hB : BlockC n) : LoopC (n + 1) := by
  intro w g ts F r hP hx hn
  have HV := hide (ps_loop ts n r)
  generalize psF ts (n + 1) 3 r = RT at *
  have h := hP.a
  have hg9 := hP.g9
  have hn7 := hP.n7
  have hpb := hP.b
  have hpp := hP.p
  have hbA := bel1 w (.cells (List.toArray stZ) 92)
  have hZ0 := Blk.new w stZ 92
  have HT := hide (take_any (w.alloc (.cells (List.toArray stZ) 92)) g ts F r [119, 104, 105, 108, 101] (by decide) (h.keep hbA))
  have hgl := h.b.lt
  have HR := hide h
  have HG := hide hP.l
  have hm := (h.more (.inr (by rw [hx]; decide))).1
  rw [take_is hx] at HT HV
  have hfw := fr_whole (ts := ts) r.step
  have hfwa : r.at' + 1 ≤ (Rd.whole ts r.step).2.at' := hfw.at'
  have hfwv : (Rd.whole ts r.step).2.vars = r.vars := hfw.vars
  have hfwb : (Rd.whole ts r.step).2.blocks + n ≤ 1000000 := by have h1 := hfw.blocks; have h2 : r.step.blocks = r.blocks := rfl; omega
  have hfwl : (Rd.whole ts r.step).2.loops + (n + 1) ≤ 1000000 := by have h1 := hfw.loops; have h2 : r.step.loops = r.loops := rfl; omega
  have HFv := hide hfwv
  clear h hP hfw hfwv hx
  go_enter Tryz.func82, Tryz.ntmps82
  go_wp2_with fail
  refine HT.out.mono ?_
  rintro e w1 ⟨rfl, hA1, hk1⟩
  have HZ1 := hide (hZ0.keepK hk1 (by omega))
  have HK1 := hide ((Kp.of (g := g) hbA).trans hk1)
  have HWh := hide (whole_any w1 g ts F r.step hA1 (HG.out.keepK HK1.out hg9) hg9)
  have hs1 : w.heap.size < w1.heap.size := HZ1.out.lt
  clear hA1 hk1 hbA hZ0 HT
  generalize Rd.whole ts r.step = q at *
  obtain ⟨ex, r2⟩ := q
  simp only at HWh hfwa HFv hfwb hfwl HV
  go_wp2_with fail
  refine HWh.out.mono ?_
  rintro e w2 ⟨p, rfl, hX2, hA2, hk2⟩
  have HX2 := hide hX2
  have HA2 := hide hA2
  have HK2 := hide (HK1.out.trans hk2)
  have HZ2 := hide (HZ1.out.keepK hk2 (by omega))
  clear hX2 hA2 hk2 HWh HK1 HZ1
  go_upto_region 3 with fail
  have HS3 : Hid (Blk (w2.alloc (.cells #[.string ⟨#[119, 104, 105, 108, 101]⟩, .string ⟨#[]⟩, .bool false, .int .i64 0, .int .i64 0, .pointer none, .pointer (some ⟨p, 0, none⟩), .slice none 0 0, .int .i64 0, .slice none 0 0] 92)) w2.heap.size 92 [.string ⟨#[119, 104, 105, 108, 101]⟩, .string ⟨#[]⟩, .bool false, .int .i64 0, .int .i64 0, .pointer none, .pointer (some ⟨p, 0, none⟩), .slice none 0 0, .int .i64 0, .slice none 0 0]) := hide ⟨heap_alloc_new _ _⟩
  have hb3 := bel1 w2 (.cells #[.string ⟨#[119, 104, 105, 108, 101]⟩, .string ⟨#[]⟩, .bool false, .int .i64 0, .int .i64 0, .pointer none, .pointer (some ⟨p, 0, none⟩), .slice none 0 0, .int .i64 0, .slice none 0 0] 92)
  have HX3 : Hid (PtE (w2.alloc (.cells #[.string ⟨#[119, 104, 105, 108, 101]⟩, .string ⟨#[]⟩, .bool false, .int .i64 0, .int .i64 0, .pointer none, .pointer (some ⟨p, 0, none⟩), .slice none 0 0, .int .i64 0, .slice none 0 0] 92)) (some ex) (fun k => w1.heap.size ≤ k ∧ k ≠ w2.heap.size) (.pointer (some ⟨p, 0, none⟩))) := hide ⟨p, rfl, HX2.out.move ex fun j hj hs => ⟨⟨hj, by omega⟩, hb3.block j hs⟩⟩
  have HK3 := hide (HK2.out.trans (Kp.of hb3))
  have HZ3 := hide (HZ2.out.below hb3 HZ2.out.lt)
  have HA3 := hide (HA2.out.keep hb3)
  have hs2 : g < w2.heap.size := HA2.out.b.lt
  have hs12 : w1.heap.size ≤ w2.heap.size := by have := HX2.out.x; have h1 : w1.heap.size ≤ p := this.1; omega
  clear hb3 HX2 HA2 HK2 HZ2
  generalize w2.alloc (.cells #[.string ⟨#[119, 104, 105, 108, 101]⟩, .string ⟨#[]⟩, .bool false, .int .i64 0, .int .i64 0, .pointer none, .pointer (some ⟨p, 0, none⟩), .slice none 0 0, .int .i64 0, .slice none 0 0] 92) = W3 at *
  generalize w2.heap.size = N1 at *
  obtain ⟨rl, hrl⟩ : ∃ rl, rl = { r2 with loops := r2.loops + 1 } := ⟨_, rfl⟩
  have c10 := HA3.out.b.get (j := 10) rfl
  have f10 := HA3.out.b.frz 10
  have HA4 : Hid (RdA (W3.setCell ⟨g, 10, none⟩ (.int .i64 ((r2.loops : Int) + 1))) g ts F rl) := hide (by rw [hrl]; exact HA3.out.to (Kp.set (Kp.refl g W3) _) (HA3.out.b.set 10 _) rfl HA3.out.hat)
  have HK4 := hide (Kp.set (j := 10) HK3.out (.int .i64 ((r2.loops : Int) + 1)))
  have HZ4 := hide (HZ3.out.setN (N := g) (j := 10) (by omega) (.int .i64 ((r2.loops : Int) + 1)))
  have HS4 := hide (HS3.out.setN (N := g) (j := 10) (by omega) (.int .i64 ((r2.loops : Int) + 1)))
  have HX4 := hide (HX3.out.setN (N := g) (j := 10) (fun k hk => by have := hk.1; omega) (.int .i64 ((r2.loops : Int) + 1)))
  have hea := (enter_fr (ts := ts) rl).2.2.2.2.2.1
  have hra : rl.at' = r2.at' := by rw [hrl]
  have hblk : rl.blocks + n ≤ 1000000 := by rw [hrl]; exact hfwb
  have hlps : rl.loops + n ≤ 1000000 := by rw [hrl]; show r2.loops + 1 + n ≤ _; omega
  have hfb := fr_ps (ts := ts) n 1 rl
  have HBl := hide (fun W (hW : Pre n W g ts F rl) => hB W g ts F rl hW (by omega))
  rw [← hrl] at HV
  have hlo : (1 : Int) ≤ ((psF ts n 1 rl).2.loops : Int) := by have h1 := hfb.loops; have h2 : rl.loops = r2.loops + 1 := by rw [hrl]
                                                               omega
  have hlh : ((psF ts n 1 rl).2.loops : Int) ≤ 1000000 := by have h1 := hfb.loops; omega
  have hvv : (psF ts n 1 rl).2.vars = r.vars := hfb.vars.trans (by rw [hrl]; exact HFv.out)
  have HVv := hide hvv
  clear HX3 HS3 HZ3 HK3 HA3 hfb hvv hea hra hrl
  go_upto_region 4 with fail
  clear c10 f10
  generalize W3.setCell ⟨g, 10, none⟩ (.int .i64 ((r2.loops : Int) + 1)) = W4 at *
  have HB4 := hide (HBl.out W4 ⟨HA4.out, HG.out.keepK HK4.out hg9, hg9, by omega, hblk, hlps⟩)
  have hn4 : N1 < W4.heap.size := HS4.out.lt
  clear HBl hblk hlps
  generalize psF ts n 1 rl = qb at *
  obtain ⟨bo, r5⟩ := qb
  simp only at HB4 hlo hlh HVv HV
  go_wp2_with fail
  refine HB4.out.mono ?_
  rintro e w5 ⟨vb, rfl, hL5, hA5, hk5⟩
  obtain ⟨ab, nb, cb, rfl⟩ := ls_shape hL5
  have hS5 := HS4.out.keepK hk5 (by omega)
  have x7 := hS5.get (j := 7) rfl
  have f7 := hS5.frz 7
  have HK5 := hide (HK4.out.trans hk5)
  have HL6 := hide (hL5.setN (N := N1) (j := 7) (fun k (hk : W4.heap.size ≤ k) => by show k ≠ N1; omega) (.slice ab nb cb))
  have HA6 := hide (RdA.setN (N := N1) (j := 7) HR.out HK5.out hA5 HVv.out (by omega) (.slice ab nb cb))
  have HK6 := hide (HK5.out.setN (N := N1) (j := 7) (by omega) (.slice ab nb cb))
  have HZ6 := hide ((HZ4.out.keepK hk5 (by omega)).setN (N := N1) (j := 7) (by omega) (.slice ab nb cb))
  have HS6 : Hid (Blk (w5.setCell ⟨N1, 7, none⟩ (.slice ab nb cb)) N1 92 [.string ⟨#[119, 104, 105, 108, 101]⟩, .string ⟨#[]⟩, .bool false, .int .i64 0, .int .i64 0, .pointer none, .pointer (some ⟨p, 0, none⟩), .slice ab nb cb, .int .i64 0, .slice none 0 0]) := hide (hS5.set 7 _)
  have HX6 := hide ((HX4.out.keepK hk5 (fun j hj => by have := hj.1; omega)).setN (N := N1) (j := 7) (fun k hk => hk.2) (.slice ab nb cb))
  clear hL5 hA5 hk5 HB4 HK5 HX4 HS4 HZ4 HK4 HA4 hS5
  go_upto_region 5 with fail
  clear x7 f7
  generalize w5.setCell ⟨N1, 7, none⟩ (.slice ab nb cb) = W6 at *
  have c10 := HA6.out.b.get (j := 10) rfl
  have f10 := HA6.out.b.frz 10
  have HA7 : Hid (RdA (W6.setCell ⟨g, 10, none⟩ (.int .i64 ((r5.loops : Int) - 1))) g ts F { r5 with loops := r5.loops - 1 }) := hide (by
    have e : ((r5.loops - 1 : Nat) : Int) = (r5.loops : Int) - 1 := by omega
    rw [← e]
    exact HA6.out.to (Kp.set (Kp.refl g W6) _) (HA6.out.b.set 10 _) rfl HA6.out.hat)
  have HK7 := hide (Kp.set (j := 10) HK6.out (.int .i64 ((r5.loops : Int) - 1)))
  have HZ7 := hide (HZ6.out.setN (N := g) (j := 10) (by omega) (.int .i64 ((r5.loops : Int) - 1)))
  have hS7 := HS6.out.setN (N := g) (j := 10) (by omega) (.int .i64 ((r5.loops : Int) - 1))
  have HX7 := hide (HX6.out.setN (N := g) (j := 10) (fun k hk => by have := hk.1; omega) (.int .i64 ((r5.loops : Int) - 1)))
  have HL7 := hide (HL6.out.setN (N := g) (j := 10) (fun k (hk : W4.heap.size ≤ k) => by show k ≠ g; omega) (.int .i64 ((r5.loops : Int) - 1)))
  clear HA6 HK6 HZ6 HS6 HX6 HL6
  go_upto_region 6 with fail
  clear c10 f10
  generalize W6.setCell ⟨g, 10, none⟩ (.int .i64 ((r5.loops : Int) - 1)) = W7 at *
  have x0 := hS7.get (j := 0) rfl
  have x1 := hS7.get (j := 1) rfl
  have x2 := hS7.get (j := 2) rfl
  have x3 := hS7.get (j := 3) rfl
  have x4 := hS7.get (j := 4) rfl
  have x5 := hS7.get (j := 5) rfl
  have x6 := hS7.get (j := 6) rfl
  have x7 := hS7.get (j := 7) rfl
  have x8 := hS7.get (j := 8) rfl
  have x9 := hS7.get (j := 9) rfl
  clear hS7
  go_wp2_with (refine storeB [.string ⟨#[119, 104, 105, 108, 101]⟩, .string ⟨#[]⟩, .bool false, .int .i64 0, .int .i64 0, .pointer none, .pointer (some ⟨p, 0, none⟩), .slice ab nb cb, .int .i64 0, .slice none 0 0] info_st rfl rfl _ _ rfl w.heap.size rfl rfl _ HZ7.out rfl ?_)
  refine bodyPost_ret (results_cell_row rfl _ _ w.heap.size 92 (List.toArray [.string ⟨#[119, 104, 105, 108, 101]⟩, .string ⟨#[]⟩, .bool false, .int .i64 0, .int .i64 0, .pointer none, .pointer (some ⟨p, 0, none⟩), .slice ab nb cb, .int .i64 0, .slice none 0 0]) (0, 0) _ rfl (HZ7.out.put _).out Tryz.underlying92 rfl info_st) rfl ?_
  refine ⟨{ Sl.of [119, 104, 105, 108, 101] with val := some ex, body := bo }, by rw [HV.out], rfl, _, rfl, ?_⟩
  rw [HV.out]
  have hS : StA W7 { Sl.of [119, 104, 105, 108, 101] with val := some ex, body := bo } (fun j => w.heap.size ≤ j ∧ j ≠ w.heap.size) [.string ⟨#[119, 104, 105, 108, 101]⟩, .string ⟨#[]⟩, .bool false, .int .i64 0, .int .i64 0, .pointer none, .pointer (some ⟨p, 0, none⟩), .slice ab nb cb, .int .i64 0, .slice none 0 0] := ⟨_, _, _, _, rfl, rfl, HX7.out.mono (fun j hj => by have := hj.1; exact ⟨by omega, by omega⟩), HL7.out.mono (fun j hj => by have : W4.heap.size ≤ j := hj; exact ⟨by omega, by omega⟩), rfl⟩
  exact st_fin HR.out HA7.out HK7.out HVv.out (Nat.le_refl _) hS _
end Go.Proofs.YtiafodeabdhcoaaGreatDoor

namespace Go.Proofs.YtiafodeabdhcoaaGreatDoor
open Go.RowKit
def chT (ts : List Tk) (n : Nat) (e : Ex × Rd) : Option Sl × Rd :=
  let b := psF ts n 1 e.2
  if (b.2).is ts [101, 108, 115, 101] = true then
    if (b.2.step).is ts [105, 102] = true then
      (some { Sl.of [105, 102] with val := some e.1, body := b.1, oth := 2, rest := (psF ts n 2 b.2.step).1 }, (psF ts n 2 b.2.step).2)
    else (some { Sl.of [105, 102] with val := some e.1, body := b.1, oth := 1, rest := (psF ts n 1 b.2.step).1 }, (psF ts n 1 b.2.step).2)
  else (some { Sl.of [105, 102] with val := some e.1, body := b.1 }, b.2)
theorem ps_choice (ts : List Tk) (n : Nat) (r : Rd) : psF ts (n + 1) 2 r = chT ts n (Rd.whole ts (r.take ts [105, 102])) := by
  simp only [psF, chT]
set_option maxRecDepth 100000 in
set_option maxHeartbeats 4000000 in
theorem choice_step (n : Nat) (hB : BlockC n) (hC : ChoiceC n) : ChoiceC (n + 1) := by
  intro w g ts F r hP hx hn
  have HV := hide (ps_choice ts n r)
  generalize psF ts (n + 1) 2 r = RT at *
  have h := hP.a
  have hg9 := hP.g9
  have hn7 := hP.n7
  have hpb := hP.b
  have hpp := hP.p
  have hbA := bel1 w (.cells (List.toArray stZ) 92)
  have hZ0 := Blk.new w stZ 92
  have HT := hide (take_any (w.alloc (.cells (List.toArray stZ) 92)) g ts F r [105, 102] (by decide) (h.keep hbA))
  have hgl := h.b.lt
  have HR := hide h
  have HG := hide hP.l
  have hm := (h.more (.inr (by rw [hx]; decide))).1
  rw [take_is hx] at HT HV
  have hfw := fr_whole (ts := ts) r.step
  have hfwa : r.at' + 1 ≤ (Rd.whole ts r.step).2.at' := hfw.at'
  have hfwv : (Rd.whole ts r.step).2.vars = r.vars := hfw.vars
  have hfwb : (Rd.whole ts r.step).2.blocks + n ≤ 1000000 := by have h1 := hfw.blocks; have h2 : r.step.blocks = r.blocks := rfl; omega
  have hfwl : (Rd.whole ts r.step).2.loops + (n + 1) ≤ 1000000 := by have h1 := hfw.loops; have h2 : r.step.loops = r.loops := rfl; omega
  have HFv := hide hfwv
  clear h hP hfw hfwv hx
  go_enter Tryz.func81, Tryz.ntmps81
  go_wp2_with fail
  refine HT.out.mono ?_
  rintro e w1 ⟨rfl, hA1, hk1⟩
  have HZ1 := hide (hZ0.keepK hk1 (by omega))
  have HK1 := hide ((Kp.of (g := g) hbA).trans hk1)
  have HWh := hide (whole_any w1 g ts F r.step hA1 (HG.out.keepK HK1.out hg9) hg9)
  have hs1 : w.heap.size < w1.heap.size := HZ1.out.lt
  clear hA1 hk1 hbA hZ0 HT
  generalize Rd.whole ts r.step = q at *
  obtain ⟨ex, r2⟩ := q
  simp only at HWh hfwa HFv hfwb hfwl HV
  go_wp2_with fail
  refine HWh.out.mono ?_
  rintro e w2 ⟨p, rfl, hX2, hA2, hk2⟩
  have HX2 := hide hX2
  have HA2 := hide hA2
  have HK2 := hide (HK1.out.trans hk2)
  have HZ2 := hide (HZ1.out.keepK hk2 (by omega))
  clear hX2 hA2 hk2 HWh HK1 HZ1
  go_upto_region 3 with fail
  have HS3 : Hid (Blk (w2.alloc (.cells #[.string ⟨#[105, 102]⟩, .string ⟨#[]⟩, .bool false, .int .i64 0, .int .i64 0, .pointer none, .pointer (some ⟨p, 0, none⟩), .slice none 0 0, .int .i64 0, .slice none 0 0] 92)) w2.heap.size 92 [.string ⟨#[105, 102]⟩, .string ⟨#[]⟩, .bool false, .int .i64 0, .int .i64 0, .pointer none, .pointer (some ⟨p, 0, none⟩), .slice none 0 0, .int .i64 0, .slice none 0 0]) := hide ⟨heap_alloc_new _ _⟩
  have hb3 := bel1 w2 (.cells #[.string ⟨#[105, 102]⟩, .string ⟨#[]⟩, .bool false, .int .i64 0, .int .i64 0, .pointer none, .pointer (some ⟨p, 0, none⟩), .slice none 0 0, .int .i64 0, .slice none 0 0] 92)
  have HX3 : Hid (PtE (w2.alloc (.cells #[.string ⟨#[105, 102]⟩, .string ⟨#[]⟩, .bool false, .int .i64 0, .int .i64 0, .pointer none, .pointer (some ⟨p, 0, none⟩), .slice none 0 0, .int .i64 0, .slice none 0 0] 92)) (some ex) (fun k => w1.heap.size ≤ k ∧ k ≠ w2.heap.size) (.pointer (some ⟨p, 0, none⟩))) := hide ⟨p, rfl, HX2.out.move ex fun j hj hs => ⟨⟨hj, by omega⟩, hb3.block j hs⟩⟩
  have HK3 := hide (HK2.out.trans (Kp.of hb3))
  have HZ3 := hide (HZ2.out.below hb3 HZ2.out.lt)
  have HA3 := hide (HA2.out.keep hb3)
  have hs2 : g < w2.heap.size := HA2.out.b.lt
  have hs12 : w1.heap.size ≤ w2.heap.size := by have := HX2.out.x; have h1 : w1.heap.size ≤ p := this.1; omega
  clear hb3 HX2 HA2 HK2 HZ2
  generalize w2.alloc (.cells #[.string ⟨#[105, 102]⟩, .string ⟨#[]⟩, .bool false, .int .i64 0, .int .i64 0, .pointer none, .pointer (some ⟨p, 0, none⟩), .slice none 0 0, .int .i64 0, .slice none 0 0] 92) = W3 at *
  generalize w2.heap.size = N1 at *
  have HV1 : Hid (RT = (if ((psF ts n 1 r2).2).is ts [101, 108, 115, 101] = true then
    if ((psF ts n 1 r2).2.step).is ts [105, 102] = true then
      (some { Sl.of [105, 102] with val := some ex, body := (psF ts n 1 r2).1, oth := 2, rest := (psF ts n 2 (psF ts n 1 r2).2.step).1 }, (psF ts n 2 (psF ts n 1 r2).2.step).2)
    else (some { Sl.of [105, 102] with val := some ex, body := (psF ts n 1 r2).1, oth := 1, rest := (psF ts n 1 (psF ts n 1 r2).2.step).1 }, (psF ts n 1 (psF ts n 1 r2).2.step).2)
    else (some { Sl.of [105, 102] with val := some ex, body := (psF ts n 1 r2).1 }, (psF ts n 1 r2).2))) := hide HV.out
  clear HV
  have hea := (enter_fr (ts := ts) r2).2.2.2.2.2.1
  have hfb := fr_ps (ts := ts) n 1 r2
  have hfba : r.at' + 1 ≤ (psF ts n 1 r2).2.at' := by have := hfb.at'; omega
  have HFw : Hid ((psF ts n 1 r2).2.vars = r.vars) := hide (hfb.vars.trans HFv.out)
  have hfbb : (psF ts n 1 r2).2.blocks + n ≤ 1000000 := by have := hfb.blocks; omega
  have hfbl : (psF ts n 1 r2).2.loops + n ≤ 1000000 := by have := hfb.loops; omega
  have HBl := hide (fun W (hW : Pre n W g ts F r2) => hB W g ts F r2 hW (by omega))
  have HB4 := hide (HBl.out W3 ⟨HA3.out, HG.out.keepK HK3.out hg9, hg9, by omega, hfwb, by omega⟩)
  have hn4 : N1 < W3.heap.size := HS3.out.lt
  have hs13 : w1.heap.size ≤ W3.heap.size := by omega
  clear HBl hfb hea HFv
  generalize psF ts n 1 r2 = qb at *
  obtain ⟨bo, r5⟩ := qb
  simp only at HB4 HV1 hfba HFw hfbb hfbl
  go_wp2_with fail
  refine HB4.out.mono ?_
  rintro e w5 ⟨vb, rfl, hL5, hA5, hk5⟩
  obtain ⟨ab, nb, cb, rfl⟩ := ls_shape hL5
  have hS5 := HS3.out.keepK hk5 (by omega)
  have x7 := hS5.get (j := 7) rfl
  have f7 := hS5.frz 7
  have HK5 := hide (HK3.out.trans hk5)
  have hL5' := hL5.mono (Y := fun k => w1.heap.size ≤ k ∧ k ≠ N1) (fun k (hk : W3.heap.size ≤ k) => ⟨by omega, by omega⟩)
  have HL6 := hide (hL5'.setN (N := N1) (j := 7) (fun k hk => hk.2) (.slice ab nb cb))
  have HA6 := hide (RdA.setN (N := N1) (j := 7) HR.out HK5.out hA5 HFw.out (by omega) (.slice ab nb cb))
  have HK6 := hide (HK5.out.setN (N := N1) (j := 7) (by omega) (.slice ab nb cb))
  have HZ6 := hide ((HZ3.out.keepK hk5 (by omega)).setN (N := N1) (j := 7) (by omega) (.slice ab nb cb))
  have HS6 : Hid (Blk (w5.setCell ⟨N1, 7, none⟩ (.slice ab nb cb)) N1 92 [.string ⟨#[105, 102]⟩, .string ⟨#[]⟩, .bool false, .int .i64 0, .int .i64 0, .pointer none, .pointer (some ⟨p, 0, none⟩), .slice ab nb cb, .int .i64 0, .slice none 0 0]) := hide (hS5.set 7 _)
  have HX6 := hide ((HX3.out.keepK hk5 (fun j hj => by have := hj.1; omega)).setN (N := N1) (j := 7) (fun k hk => hk.2) (.slice ab nb cb))
  clear hL5 hL5' hA5 hk5 HB4 HK5 HX3 HS3 HZ3 HK3 HA3 hS5
  go_upto_region 4 with fail
  clear x7 f7
  generalize w5.setCell ⟨N1, 7, none⟩ (.slice ab nb cb) = W6 at *
  have HPs := hide (pass_any W6 g ts F r5 [101, 108, 115, 101] (by decide) HA6.out)
  have HPe : Hid (r5.pass ts [101, 108, 115, 101] = if r5.is ts [101, 108, 115, 101] = true then r5.step else r5) := hide rfl
  rw [HPe.out] at HPs
  clear HPe
  go_wp2_with fail
  refine HPs.out.mono ?_
  rintro e w7 ⟨rfl, hA7, hk7⟩
  have HK7 := hide (HK6.out.trans hk7)
  have HZ7 := hide (HZ6.out.keepK hk7 (by omega))
  have HS7 := hide (HS6.out.keepK hk7 (by omega))
  have HX7 := hide (HX6.out.keepK hk7 (fun j hj => by have := hj.1; omega))
  have HL7 := hide (HL6.out.keepK hk7 (fun j hj => by have := hj.1; omega))
  have HM7 : Hid (r5.is ts [101, 108, 115, 101] = true → r5.at' + 1 < ts.length) := hide (fun e => (HA6.out.more (.inr (by
    have e2 : (r5.see ts).text = [101, 108, 115, 101] := by simpa [Rd.is] using e
    rw [e2]; decide))).1)
  clear hk7 HPs HK6 HZ6 HS6 HX6 HL6 HA6
  cases hel : r5.is ts [101, 108, 115, 101] with
  | false =>
    rw [hel] at HV1 hA7
    simp only [if_false, Bool.false_eq_true] at HV1 hA7
    have HV := HV1
    have HA7 := hide hA7
    have hS7 := HS7.out
    clear HV1 hA7 HS7 hel HM7
    have x0 := hS7.get (j := 0) rfl
    have x1 := hS7.get (j := 1) rfl
    have x2 := hS7.get (j := 2) rfl
    have x3 := hS7.get (j := 3) rfl
    have x4 := hS7.get (j := 4) rfl
    have x5 := hS7.get (j := 5) rfl
    have x6 := hS7.get (j := 6) rfl
    have x7 := hS7.get (j := 7) rfl
    have x8 := hS7.get (j := 8) rfl
    have x9 := hS7.get (j := 9) rfl
    clear hS7
    go_wp2_with (refine storeB [.string ⟨#[105, 102]⟩, .string ⟨#[]⟩, .bool false, .int .i64 0, .int .i64 0, .pointer none, .pointer (some ⟨p, 0, none⟩), .slice ab nb cb, .int .i64 0, .slice none 0 0] info_st rfl rfl _ _ rfl w.heap.size rfl rfl _ HZ7.out rfl ?_)
    refine bodyPost_ret (results_cell_row rfl _ _ w.heap.size 92 (List.toArray [.string ⟨#[105, 102]⟩, .string ⟨#[]⟩, .bool false, .int .i64 0, .int .i64 0, .pointer none, .pointer (some ⟨p, 0, none⟩), .slice ab nb cb, .int .i64 0, .slice none 0 0]) (0, 0) _ rfl (HZ7.out.put _).out Tryz.underlying92 rfl info_st) rfl ?_
    refine ⟨{ Sl.of [105, 102] with val := some ex, body := bo }, by rw [HV.out], rfl, _, rfl, ?_⟩
    rw [HV.out]
    have hS : StA w7 { Sl.of [105, 102] with val := some ex, body := bo } (fun j => w.heap.size ≤ j ∧ j ≠ w.heap.size) [.string ⟨#[105, 102]⟩, .string ⟨#[]⟩, .bool false, .int .i64 0, .int .i64 0, .pointer none, .pointer (some ⟨p, 0, none⟩), .slice ab nb cb, .int .i64 0, .slice none 0 0] := ⟨_, _, _, _, rfl, rfl, HX7.out.mono (fun j hj => by have := hj.1; exact ⟨by omega, by omega⟩), HL7.out.mono (fun j hj => by have := hj.1; exact ⟨by omega, by omega⟩), rfl⟩
    exact st_fin HR.out HA7.out HK7.out HFw.out (Nat.le_refl _) hS _
  | true =>
    have hm7 := HM7.out hel
    rw [hel] at HV1 hA7
    simp only [if_true] at HV1 hA7
    have HSe := hide (see_any w7 g ts F r5.step hA7)
    have HIs : Hid (r5.step.is ts [105, 102] = ((r5.step.see ts).text == [105, 102])) := hide rfl
    have HTx : Hid ((r5.step.see ts).text = (r5.step.see ts).text) := hide rfl
    have HA7 := hide hA7
    clear hA7 hel HM7 HTx
    have HCh := hide (fun W (hW : Pre n W g ts F r5.step) (hx : (r5.step.see ts).text = [105, 102]) => hC W g ts F r5.step hW hx (by show 4 * (ts.length - (r5.at' + 1)) + 2 ≤ n; omega))
    have hea := (enter_fr (ts := ts) r5.step).2.2.2.2.2.1
    have hea1 : r5.at' + 1 ≤ (r5.step.enter ts).at' := hea
    have HBe := hide (fun W (hW : Pre n W g ts F r5.step) => hB W g ts F r5.step hW (by omega))
    have HFx2 : Hid ((psF ts n 2 r5.step).2.vars = r.vars) := hide ((fr_ps (ts := ts) n 2 r5.step).vars.trans HFw.out)
    have HFx1 : Hid ((psF ts n 1 r5.step).2.vars = r.vars) := hide ((fr_ps (ts := ts) n 1 r5.step).vars.trans HFw.out)
    have HFs : Hid (r5.step.vars = r.vars) := hide HFw.out
    have hsb : r5.step.blocks + n ≤ 1000000 := hfbb
    have hsl : r5.step.loops + n ≤ 1000000 := hfbl
    clear hea hea1 hfbb hfbl HFw
    have HFw := HFs
    clear HFs
    generalize r5.step = r6 at *
    obtain ⟨t, ht⟩ : ∃ t, r6.see ts = t := ⟨_, rfl⟩
    rw [ht] at HSe HIs HCh
    obtain ⟨tk, tx, tv, tl⟩ := t
    simp only [tkL] at HSe HIs HCh
    clear ht
    rw [HIs.out] at HV1
    have h1 := fld1 (.int .i64 (tk : Nat)) (.string ⟨tx.toArray⟩) (.int .u32 (tv : Nat)) (.int .i64 (tl : Nat))
    go_wp2_with fail
    refine HSe.out.mono ?_
    rintro e w8 ⟨rfl, hb8⟩
    have HA8 := hide (HA7.out.keep hb8)
    have HK8 := hide (HK7.out.trans (Kp.of hb8))
    have HZ8 := hide (HZ7.out.below hb8 HZ7.out.lt)
    have HS8 := hide (HS7.out.below hb8 HS7.out.lt)
    have HX8 := hide (HX7.out.keepK (Kp.of (g := g) hb8) (fun j hj => by have := hj.1; omega))
    have HL8 := hide (HL7.out.keepK (Kp.of (g := g) hb8) (fun j hj => by have := hj.1; omega))
    clear hb8 HA7 HK7 HZ7 HS7 HX7 HL7 HSe HIs
    by_cases hif : tx = [105, 102]
    · have hib : (tx == [105, 102]) = true := by simpa using hif
      rw [hib] at HV1
      simp only [if_true] at HV1
      have HC8 := hide (fun W hW => HCh.out W hW hif)
      clear hif HBe HFx1
      have x8 := HS8.out.get (j := 8) rfl
      have f8 := HS8.out.frz 8
      have HA9 := hide (RdA.setN (N := N1) (j := 8) HR.out HK8.out HA8.out HFw.out (by omega) (.int .i64 2))
      have HK9 := hide (HK8.out.setN (N := N1) (j := 8) (by omega) (.int .i64 2))
      have HZ9 := hide (HZ8.out.setN (N := N1) (j := 8) (by omega) (.int .i64 2))
      have HS9 : Hid (Blk (w8.setCell ⟨N1, 8, none⟩ (.int .i64 2)) N1 92 [.string ⟨#[105, 102]⟩, .string ⟨#[]⟩, .bool false, .int .i64 0, .int .i64 0, .pointer none, .pointer (some ⟨p, 0, none⟩), .slice ab nb cb, .int .i64 2, .slice none 0 0]) := hide (HS8.out.set 8 _)
      have HX9 := hide (HX8.out.setN (N := N1) (j := 8) (fun k hk => hk.2) (.int .i64 2))
      have HL9 := hide (HL8.out.setN (N := N1) (j := 8) (fun k hk => hk.2) (.int .i64 2))
      clear HA8 HK8 HZ8 HS8 HX8 HL8
      go_upto_region 8 with fail
      clear x8 f8
      generalize w8.setCell ⟨N1, 8, none⟩ (.int .i64 2) = W9 at *
      have HC9 := hide (HC8.out W9 ⟨HA9.out, HG.out.keepK HK9.out hg9, hg9, by omega, hsb, hsl⟩)
      have hn9 : N1 < W9.heap.size := HS9.out.lt
      have hs19 : w1.heap.size ≤ W9.heap.size := by have := HK9.out.size; omega
      clear HC8 HCh
      generalize psF ts n 2 r6 = qc at *
      obtain ⟨oc, r7⟩ := qc
      simp only at HC9 HV1 HFx2
      go_wp2_with fail
      refine HC9.out.mono ?_
      rintro e wa ⟨sc, hsc, hnx, cs, rfl, hSt, hAa, hka⟩
      simp only at hsc hSt hAa
      subst hsc
      obtain ⟨pi, pv, pb, pr, hcs, hq1, hq2, hq3, hq4⟩ := hSt
      have HSt : Hid (StA wa sc (New W9) cs) := hide ⟨pi, pv, pb, pr, hcs, hq1, hq2, hq3, hq4⟩
      have HAa := hide hAa
      have HKa := hide (HK9.out.trans hka)
      have HZa := hide (HZ9.out.keepK hka (by omega))
      have HSa := hide (HS9.out.keepK hka (by omega))
      have HXa := hide (HX9.out.keepK hka (fun j hj => by have := hj.1; omega))
      have HLa := hide (HL9.out.keepK hka (fun j hj => by have := hj.1; omega))
      have HNx := hide hnx
      have hwa : W9.heap.size ≤ wa.heap.size := hka.size
      clear hq1 hq2 hq3 hq4 hAa hka HC9 HA9 HK9 HZ9 HS9 HX9 HL9 hnx
      have HCs := hide hcs
      rw [hcs]
      clear hcs
      simp only [stL]
      have hbB := bel1 wa (.cells (stL sc.word sc.var pi pv pb sc.oth pr).toArray 92)
      have HSB := hide (HSa.out.below hbB HSa.out.lt)
      have x9 := HSB.out.get (j := 9) rfl
      have f9 := HSB.out.frz 9
      have HRw : Hid (RwK (wa.alloc (.cells (stL sc.word sc.var pi pv pb sc.oth pr).toArray 92)) (some ⟨wa.heap.size, 0, none⟩) 10 id [cs]) := hide (fun i hi => by
        obtain rfl : i = 0 := by simpa using hi
        refine ⟨_, rfl, fun j v hv => ?_⟩
        rw [Nat.zero_mul, add0 _ 0]
        have hv2 : (stL sc.word sc.var pi pv pb sc.oth pr)[j]? = some v := by rw [← HCs.out]; exact hv
        exact cells_new wa (stL sc.word sc.var pi pv pb sc.oth pr) _ j v hv2)
      have HLs : Hid (LsO (wa.alloc (.cells (stL sc.word sc.var pi pv pb sc.oth pr).toArray 92)) (some sc) (fun k => w1.heap.size ≤ k ∧ k ≠ N1) (.slice (some ⟨wa.heap.size, 0, none⟩) 1 1)) := hide ⟨_, 1, [cs], rfl, ⟨by show w1.heap.size ≤ wa.heap.size; omega, by show wa.heap.size ≠ N1; omega⟩, HRw.out, ChIs.iff.2 ⟨cs, [], rfl, HSt.out.move (fun k hk hs => ⟨⟨by have : W9.heap.size ≤ k := hk; omega, by have : W9.heap.size ≤ k := hk; omega⟩, hbB.block k hs⟩) (fun k hk => ⟨by have : W9.heap.size ≤ k := hk; omega, by have : W9.heap.size ≤ k := hk; omega⟩), by rw [HNx.out]; rfl⟩⟩
      have HAB := hide (HAa.out.keep hbB)
      have HKB := hide (HKa.out.trans (Kp.of hbB))
      have HZB := hide (HZa.out.below hbB HZa.out.lt)
      have HXB := hide (HXa.out.keepK (Kp.of (g := g) hbB) (fun j hj => by have := hj.1; omega))
      have HLB := hide (HLa.out.keepK (Kp.of (g := g) hbB) (fun j hj => by have := hj.1; omega))
      clear hbB HAa HKa HZa HXa HLa HSa HRw HSt HCs HNx
      have HAc := hide (RdA.setN (N := N1) (j := 9) HR.out HKB.out HAB.out HFx2.out (by omega) (.slice (some ⟨wa.heap.size, 0, none⟩) 1 1))
      have HKc := hide (HKB.out.setN (N := N1) (j := 9) (by omega) (.slice (some ⟨wa.heap.size, 0, none⟩) 1 1))
      have HZc := hide (HZB.out.setN (N := N1) (j := 9) (by omega) (.slice (some ⟨wa.heap.size, 0, none⟩) 1 1))
      have hSc : Blk _ N1 92 [.string ⟨#[105, 102]⟩, .string ⟨#[]⟩, .bool false, .int .i64 0, .int .i64 0, .pointer none, .pointer (some ⟨p, 0, none⟩), .slice ab nb cb, .int .i64 2, .slice (some ⟨wa.heap.size, 0, none⟩) 1 1] := HSB.out.set 9 (.slice (some ⟨wa.heap.size, 0, none⟩) 1 1)
      have HXc := hide (HXB.out.setN (N := N1) (j := 9) (fun k hk => hk.2) (.slice (some ⟨wa.heap.size, 0, none⟩) 1 1))
      have HLc := hide (HLB.out.setN (N := N1) (j := 9) (fun k hk => hk.2) (.slice (some ⟨wa.heap.size, 0, none⟩) 1 1))
      have HRc := hide (HLs.out.setN (N := N1) (j := 9) (fun k hk => hk.2) (.slice (some ⟨wa.heap.size, 0, none⟩) 1 1))
      clear HAB HKB HZB HXB HLB HSB HLs
      simp only [stL] at x9 f9 HAc HKc HZc hSc HXc HLc HRc
      go_upto_region 9 with fail
      clear x9 f9
      generalize (wa.alloc (.cells #[.string ⟨sc.word.toArray⟩, .string ⟨sc.var.name.toArray⟩, .bool sc.var.arr, .int .i64 (sc.var.size : Nat), .int .i64 (sc.var.at' : Nat), pi, pv, pb, .int .i64 (sc.oth : Nat), pr] 92)).setCell ⟨N1, 9, none⟩ (.slice (some ⟨wa.heap.size, 0, none⟩) 1 1) = Wc at *
      generalize wa.heap.size = Nb at *
      have HV := HV1
      clear HV1
      have x0 := hSc.get (j := 0) rfl
      have x1 := hSc.get (j := 1) rfl
      have x2 := hSc.get (j := 2) rfl
      have x3 := hSc.get (j := 3) rfl
      have x4 := hSc.get (j := 4) rfl
      have x5 := hSc.get (j := 5) rfl
      have x6 := hSc.get (j := 6) rfl
      have x7 := hSc.get (j := 7) rfl
      have x8 := hSc.get (j := 8) rfl
      have x9 := hSc.get (j := 9) rfl
      clear hSc
      go_wp2_with (refine storeB [.string ⟨#[105, 102]⟩, .string ⟨#[]⟩, .bool false, .int .i64 0, .int .i64 0, .pointer none, .pointer (some ⟨p, 0, none⟩), .slice ab nb cb, .int .i64 2, .slice (some ⟨Nb, 0, none⟩) 1 1] info_st rfl rfl _ _ rfl w.heap.size rfl rfl _ HZc.out rfl ?_)
      refine bodyPost_ret (results_cell_row rfl _ _ w.heap.size 92 (List.toArray [.string ⟨#[105, 102]⟩, .string ⟨#[]⟩, .bool false, .int .i64 0, .int .i64 0, .pointer none, .pointer (some ⟨p, 0, none⟩), .slice ab nb cb, .int .i64 2, .slice (some ⟨Nb, 0, none⟩) 1 1]) (0, 0) _ rfl (HZc.out.put _).out Tryz.underlying92 rfl info_st) rfl ?_
      refine ⟨{ Sl.of [105, 102] with val := some ex, body := bo, oth := 2, rest := some sc }, by rw [HV.out], rfl, _, rfl, ?_⟩
      rw [HV.out]
      have hS : StA Wc { Sl.of [105, 102] with val := some ex, body := bo, oth := 2, rest := some sc } (fun j => w.heap.size ≤ j ∧ j ≠ w.heap.size) [.string ⟨#[105, 102]⟩, .string ⟨#[]⟩, .bool false, .int .i64 0, .int .i64 0, .pointer none, .pointer (some ⟨p, 0, none⟩), .slice ab nb cb, .int .i64 2, .slice (some ⟨Nb, 0, none⟩) 1 1] := ⟨_, _, _, _, rfl, rfl, HXc.out.mono (fun j hj => by have := hj.1; exact ⟨by omega, by omega⟩), HLc.out.mono (fun j hj => by have := hj.1; exact ⟨by omega, by omega⟩), HRc.out.mono (fun j hj => by have := hj.1; exact ⟨by omega, by omega⟩)⟩
      exact st_fin HR.out HAc.out HKc.out HFx2.out (Nat.le_refl _) hS _
    · have hib : (tx == [105, 102]) = false := by simpa using hif
      rw [hib] at HV1
      simp only [if_false, Bool.false_eq_true] at HV1
      clear hif HCh HFx2
      have x8 := HS8.out.get (j := 8) rfl
      have f8 := HS8.out.frz 8
      have HA9 := hide (RdA.setN (N := N1) (j := 8) HR.out HK8.out HA8.out HFw.out (by omega) (.int .i64 1))
      have HK9 := hide (HK8.out.setN (N := N1) (j := 8) (by omega) (.int .i64 1))
      have HZ9 := hide (HZ8.out.setN (N := N1) (j := 8) (by omega) (.int .i64 1))
      have HS9 : Hid (Blk (w8.setCell ⟨N1, 8, none⟩ (.int .i64 1)) N1 92 [.string ⟨#[105, 102]⟩, .string ⟨#[]⟩, .bool false, .int .i64 0, .int .i64 0, .pointer none, .pointer (some ⟨p, 0, none⟩), .slice ab nb cb, .int .i64 1, .slice none 0 0]) := hide (HS8.out.set 8 _)
      have HX9 := hide (HX8.out.setN (N := N1) (j := 8) (fun k hk => hk.2) (.int .i64 1))
      have HL9 := hide (HL8.out.setN (N := N1) (j := 8) (fun k hk => hk.2) (.int .i64 1))
      clear HA8 HK8 HZ8 HS8 HX8 HL8
      go_upto_region 11 with fail
      clear x8 f8
      generalize w8.setCell ⟨N1, 8, none⟩ (.int .i64 1) = W9 at *
      have HB9 := hide (HBe.out W9 ⟨HA9.out, HG.out.keepK HK9.out hg9, hg9, by omega, hsb, hsl⟩)
      have hn9 : N1 < W9.heap.size := HS9.out.lt
      have hs19 : w1.heap.size ≤ W9.heap.size := by have := HK9.out.size; omega
      clear HBe
      generalize psF ts n 1 r6 = qc at *
      obtain ⟨oc, r7⟩ := qc
      simp only at HB9 HV1 HFx1
      go_wp2_with fail
      refine HB9.out.mono ?_
      rintro e wa ⟨ve, rfl, hLe, hAa, hka⟩
      obtain ⟨ae, ne, ce, rfl⟩ := ls_shape hLe
      have hSa := HS9.out.keepK hka (by omega)
      have x9 := hSa.get (j := 9) rfl
      have f9 := hSa.frz 9
      have HKa := hide (HK9.out.trans hka)
      have hLe' := hLe.mono (Y := fun k => w1.heap.size ≤ k ∧ k ≠ N1) (fun k (hk : W9.heap.size ≤ k) => ⟨by omega, by omega⟩)
      have HRc := hide (hLe'.setN (N := N1) (j := 9) (fun k hk => hk.2) (.slice ae ne ce))
      have HAc := hide (RdA.setN (N := N1) (j := 9) HR.out HKa.out hAa HFx1.out (by omega) (.slice ae ne ce))
      have HKc := hide (HKa.out.setN (N := N1) (j := 9) (by omega) (.slice ae ne ce))
      have HZc := hide ((HZ9.out.keepK hka (by omega)).setN (N := N1) (j := 9) (by omega) (.slice ae ne ce))
      have hSc : Blk (wa.setCell ⟨N1, 9, none⟩ (.slice ae ne ce)) N1 92 [.string ⟨#[105, 102]⟩, .string ⟨#[]⟩, .bool false, .int .i64 0, .int .i64 0, .pointer none, .pointer (some ⟨p, 0, none⟩), .slice ab nb cb, .int .i64 1, .slice ae ne ce] := hSa.set 9 _
      have HXc := hide ((HX9.out.keepK hka (fun j hj => by have := hj.1; omega)).setN (N := N1) (j := 9) (fun k hk => hk.2) (.slice ae ne ce))
      have HLc := hide ((HL9.out.keepK hka (fun j hj => by have := hj.1; omega)).setN (N := N1) (j := 9) (fun k hk => hk.2) (.slice ae ne ce))
      clear hLe hLe' hAa hka HB9 HKa HA9 HK9 HZ9 HS9 HX9 HL9 hSa
      go_upto_region 12 with fail
      clear x9 f9
      generalize wa.setCell ⟨N1, 9, none⟩ (.slice ae ne ce) = Wc at *
      have HV := HV1
      clear HV1
      have x0 := hSc.get (j := 0) rfl
      have x1 := hSc.get (j := 1) rfl
      have x2 := hSc.get (j := 2) rfl
      have x3 := hSc.get (j := 3) rfl
      have x4 := hSc.get (j := 4) rfl
      have x5 := hSc.get (j := 5) rfl
      have x6 := hSc.get (j := 6) rfl
      have x7 := hSc.get (j := 7) rfl
      have x8 := hSc.get (j := 8) rfl
      have x9 := hSc.get (j := 9) rfl
      clear hSc
      go_wp2_with (refine storeB [.string ⟨#[105, 102]⟩, .string ⟨#[]⟩, .bool false, .int .i64 0, .int .i64 0, .pointer none, .pointer (some ⟨p, 0, none⟩), .slice ab nb cb, .int .i64 1, .slice ae ne ce] info_st rfl rfl _ _ rfl w.heap.size rfl rfl _ HZc.out rfl ?_)
      refine bodyPost_ret (results_cell_row rfl _ _ w.heap.size 92 (List.toArray [.string ⟨#[105, 102]⟩, .string ⟨#[]⟩, .bool false, .int .i64 0, .int .i64 0, .pointer none, .pointer (some ⟨p, 0, none⟩), .slice ab nb cb, .int .i64 1, .slice ae ne ce]) (0, 0) _ rfl (HZc.out.put _).out Tryz.underlying92 rfl info_st) rfl ?_
      refine ⟨{ Sl.of [105, 102] with val := some ex, body := bo, oth := 1, rest := oc }, by rw [HV.out], rfl, _, rfl, ?_⟩
      rw [HV.out]
      have hS : StA Wc { Sl.of [105, 102] with val := some ex, body := bo, oth := 1, rest := oc } (fun j => w.heap.size ≤ j ∧ j ≠ w.heap.size) [.string ⟨#[105, 102]⟩, .string ⟨#[]⟩, .bool false, .int .i64 0, .int .i64 0, .pointer none, .pointer (some ⟨p, 0, none⟩), .slice ab nb cb, .int .i64 1, .slice ae ne ce] := ⟨_, _, _, _, rfl, rfl, HXc.out.mono (fun j hj => by have := hj.1; exact ⟨by omega, by omega⟩), HLc.out.mono (fun j hj => by have := hj.1; exact ⟨by omega, by omega⟩), HRc.out.mono (fun j hj => by have := hj.1; exact ⟨by omega, by omega⟩)⟩
      exact st_fin HR.out HAc.out HKc.out HFx1.out (Nat.le_refl _) hS _
end Go.Proofs.YtiafodeabdhcoaaGreatDoor
