import Derived.Test.YtemkmjeioghofaaU0
namespace Go.Proofs.Ytemkmjeioghofaa
open Go.RowKit

theorem pl_next (s : Nat) : pl ((s : Int) + 1) ≠ s := by unfold pl; omega
theorem upd_other (M : Nat → List Nat) {s k : Nat} (b : List Nat) (h : k ≠ s) : upd M s b k = M k := by unfold upd; rw [if_neg h]
theorem star_dk5 {A B C P K : Asn} {W : World} {H : Nat → Prop} (h : star A (star B (star C (star P K))) W H) : star K (star A (star B (star C P))) W H :=
  star_swap (star_mono (fun _ _ h => star_swap (star_mono (fun _ _ h => star_swap (star_mono (fun _ _ h => star_comm h) h)) h)) h)
theorem Sys.five {w wr : World} {X Y Z V U : Asn} (h : Sys w wr (star X (star Y (star Z (star V U))))) : ∃ H1 H2 H3 H4 H5 : Nat → Prop, X wr H1 ∧ Y wr H2 ∧ Z wr H3 ∧ V wr H4 ∧ U wr H5 := by
  obtain ⟨H, ⟨H1, H25, hX, ⟨H2, H35, hY, ⟨H3, H45, hZ, ⟨H4, H5, hV, hU, _, _⟩, _, _⟩, _, _⟩, _, _⟩, _, _⟩ := h
  exact ⟨H1, H2, H3, H4, H5, hX, hY, hZ, hV, hU⟩
theorem star_want {K O Wn D P : Asn} {W : World} {H : Nat → Prop} (h : star K (star O (star Wn (star D P))) W H) : star Wn (star K (star O (star D P))) W H := star_swap (star_mono (fun _ _ h => star_swap h) h)
theorem star_back {K O Wn D P : Asn} {W : World} {H : Nat → Prop} (h : star Wn (star K (star O (star D P))) W H) : star K (star O (star Wn (star D P))) W H := star_mono (fun _ _ h => star_swap h) (star_swap h)
theorem Sys.frontR {w wr : World} {A B C : Asn} (h : Sys w wr (star A (star B C))) : Sys w wr (star B (star A C)) := h.mono (fun _ _ h => star_swap h)
set_option maxRecDepth 100000 in
set_option maxHeartbeats 8000000 in
theorem edits_walk (a : Option Addr) (ln cp : Nat) (O : Nat → Opr) (ps : Int) (pb : Nat) (at' : Int) (dv : Value) (zs : List Nat) (w : World)
    (hln : ln ≤ 1048576) (hO : IsOps w a ln O) (hpb : pb < 256) (hD : Rd w dv zs) (hzb : ∀ z ∈ zs, z < 256) (hzl : zs.length ≤ 1048576) :
    Calls Try.prog 4 #[.agg #[.slice a ln cp, .int .i64 ps, .int .u8 (pb : Int), .int .i64 at', dv]] w fun e w' => e = .returned (.bool true) ∧ Below w.heap.size w w' := by
  obtain ⟨ad, cd, hdv⟩ := hD.len
  obtain ⟨nz, hnz⟩ : ∃ nz, zs.length = nz := ⟨_, rfl⟩
  rw [hnz] at hdv hzl
  subst hdv
  have HNZ := hide hnz
  have HDV := hide hD
  have HOO := hide hO
  have HZB := hide hzb
  clear hnz hD hO hzb
  have hb0 : Below w.heap.size w (w.alloc (Obj.cells #[.slice a ln cp, .int .i64 ps, .int .u8 (pb : Int), .int .i64 at', .slice ad nz cd] 46)) := (Below.refl _ _).alloc (Nat.le_refl _) _
  have hrow : (w.alloc (Obj.cells #[.slice a ln cp, .int .i64 ps, .int .u8 (pb : Int), .int .i64 at', .slice ad nz cd] 46)).heap[w.heap.size]? = some (.cells #[.slice a ln cp, .int .i64 ps, .int .u8 (pb : Int), .int .i64 at', .slice ad nz cd] 46 (0, 0)) := heap_alloc_last _ _
  have HB0 := hide hb0
  have HROW := hide hrow
  clear hb0 hrow
  go_enter Try.func4, Try.ntmps4
  go_wp2_with fail
  generalize w.alloc (Obj.cells #[.slice a ln cp, .int .i64 ps, .int .u8 (pb : Int), .int .i64 at', .slice ad nz cd] 46) = w0 at *
  refine (fresh_any a ln cp O w0 hln (fun k hk => by obtain ⟨x, hx, ho⟩ := HOO.out k hk; exact ⟨x, hx, ho.below HB0.out (Nat.le_refl _)⟩)).mono ?_
  rintro e w1 ⟨B, M, A, rfl, h1, hA⟩
  have hlt0 : w.heap.size < w0.heap.size := (Array.getElem?_eq_some_iff.1 HROW.out).1
  have hrow1 : w1.heap[w.heap.size]? = some (.cells #[.slice a ln cp, .int .i64 ps, .int .u8 (pb : Int), .int .i64 at', .slice ad nz cd] 46 (0, 0)) := by rw [h1.bel.block _ hlt0]; exact HROW.out
  have c0 : w1.cell? ⟨w.heap.size, 0, none⟩ = some (.slice a ln cp) := by rw [cell_of_row _ _ _ _ _ _ hrow1]; rfl
  have c1 : w1.cell? ⟨w.heap.size, 1, none⟩ = some (.int .i64 ps) := by rw [cell_of_row _ _ _ _ _ _ hrow1]; rfl
  have c2 : w1.cell? ⟨w.heap.size, 2, none⟩ = some (.int .u8 (pb : Int)) := by rw [cell_of_row _ _ _ _ _ _ hrow1]; rfl
  have c3 : w1.cell? ⟨w.heap.size, 3, none⟩ = some (.int .i64 at') := by rw [cell_of_row _ _ _ _ _ _ hrow1]; rfl
  have c4 : w1.cell? ⟨w.heap.size, 4, none⟩ = some (.slice ad nz cd) := by rw [cell_of_row _ _ _ _ _ _ hrow1]; rfl
  have h1' : Sys w w1 (DkA B (wait M [] A)) := h1.base HB0.out
  have H1 := hide h1'
  have HPW := hide hlt0
  have hs1 : w.heap.size < w1.heap.size := Nat.lt_of_lt_of_le hlt0 h1.bel.size
  clear h1 h1' hlt0 hrow1 HROW
  generalize hTB : w.heap.size = TB at c0 c1 c2 c3 c4 hs1 ⊢
  have hne1 : ¬ w1.heap.size = TB := by omega
  have hne2 : ¬ TB = w1.heap.size := by omega
  go_wp2
  go_region_held (fun W => W.cell? ⟨TB, 1, none⟩ = some (.int .i64 ps) ∧ W.cell? ⟨TB, 2, none⟩ = some (.int .u8 (pb : Int)) ∧ W.cell? ⟨TB, 3, none⟩ = some (.int .i64 at') ∧ W.cell? ⟨TB, 4, none⟩ = some (.slice ad nz cd))
    (first | assumption | exact And.intro c1 (And.intro c2 (And.intro c3 c4)) | go_keep)
    (fail)
  have h2 := (H1.out.new (good_dk _ _) (X := PutA w1.heap.size ps pb) (Fc := fun b => b = w1.heap.size) (w' := (w1.alloc (Obj.cells #[.int .i64 ps, .int .u8 (pb : Int)] 35)).drew) ⟨heap_alloc_last _ _, fun _ => Iff.rfl⟩ (fun b hb => by omega) ((Below.refl _ _).alloc (Nat.le_refl _) _).drew)
  have hbw2 := h2.bel
  obtain ⟨_, _, hput, _⟩ := h2.two
  obtain ⟨p0, p1⟩ := hput.cells
  have H2 := hide h2
  rename_i hHeld
  clear hHeld c0 c1 c2 c3 c4 h2 hput H1 hs1 hne1 hne2
  generalize (w1.alloc (Obj.cells #[.int .i64 ps, .int .u8 (pb : Int)] 35)).drew = w2 at *
  generalize w1.heap.size = P at *
  obtain ⟨t, ht, hte⟩ := u64_rem at' 129 (by omega) (by omega)
  have hte' : wrap64 ((IntKind.u64.wrap at').tmod 129) = (t : Int) := hte
  obtain ⟨s, hs⟩ : ∃ s, pl ps = s := ⟨_, rfl⟩
  have hsl := pl_lt ps
  rw [hs] at hsl
  have HBW := hide hbw2
  clear hbw2 hte
  go_wp2_with fail
  refine (place_any ps _).mono ?_
  rw [hs]
  rintro e w3 ⟨rfl, rfl⟩
  go_wp2_with fail
  rw [hte']
  refine (copied_any _ zs _ (HDV.out.below HBW.out (Nat.le_refl _)) (by rw [HNZ.out]; exact hzl)).mono ?_
  rintro e w4 ⟨r4, rfl, hr4, hb4⟩
  have h4 := H2.out.row ((good_put _ _ _).star (good_dk _ _)) hr4 hb4
  have q1 := cell_up hb4 p1
  obtain ⟨ao, c4, hv4⟩ := hr4.len
  have hown := hr4.mono (Nat.zero_le _)
  rw [HNZ.out] at hv4
  subst hv4
  clear hte' p0 p1 hr4 hb4 H2
  obtain ⟨n1, hn1⟩ : ∃ n1, 128 - t = n1 := ⟨_, rfl⟩
  have hi1 : (128 : Int) - (t : Int) = (n1 : Int) := by omega
  by_cases hcut : n1 < nz
  · have hd1 : decide (n1 < nz) = true := by simp; omega
    obtain ⟨gd, hgd⟩ : ∃ gd, ao = some ⟨gd, 0, none⟩ := by
      obtain ⟨g, cc, hv, _⟩ := hown.some_of (by rw [HNZ.out]; omega)
      simp at hv
      exact ⟨g, hv.1⟩
    subst hgd
    have hcap : nz ≤ c4 := by
      obtain ⟨g, cc, hv, _, hc, _⟩ := hown.some_of (by rw [HNZ.out]; omega)
      rw [HNZ.out] at hv hc
      simp at hv
      omega
    have h5 : Sys w w4 (star (OwA (.slice (some ⟨gd, 0, none⟩) n1 c4) (zs.take n1)) (star (PutA P ps pb) (DkA B (wait M [] A)))) := by
      obtain ⟨F, hX, _, hn⟩ := h4.call ((good_put _ _ _).star (good_dk _ _))
      exact hn w4 F _ ⟨hX.1.cut n1 (by rw [HNZ.out]; omega), hX.2⟩ (Ext.refl _ _)
    have HL : Hid ((zs.take n1).length = n1) := by show _ = _; rw [List.length_take, HNZ.out]; omega
    have HYB : Hid (∀ z ∈ zs.take n1, z < 256) := fun z hz => HZB.out z (List.mem_of_mem_take hz)
    have H5 := hide h5
    have hle : t + n1 ≤ 128 := by omega
    have hcp : n1 ≤ c4 := by omega
    generalize zs.take n1 = z1 at *
    clear h4 h5 hown
    go_wp2_with fail
    obtain ⟨_, _, _, _, _, hdk⟩ := H5.out.three
    have hls : (M s).length = 128 := by obtain ⟨_, _, h, _⟩ := hdk; exact (h.ok.m s hsl).1
    have hos : (M (pl ((s : Int) + 1))).length = 128 := by obtain ⟨_, _, h, _⟩ := hdk; exact (h.ok.m _ (pl_lt _)).1
    have HDK := hide hdk
    clear hdk
    refine (raw_ok HDK.out s hsl).mono ?_
    rw [show (wait M [] A).M s = M s from rfl]
    rintro e w5 ⟨wv, rfl, hwv, hb5⟩
    obtain ⟨gw, cw, hwvv, _, hcw, _⟩ := hwv.some_of (by rw [hls]; omega)
    rw [hls] at hwvv
    subst hwvv
    have h6 := H5.out.row ((good_ow _ _).star ((good_put _ _ _).star (good_dk _ _))) hwv hb5
    have HDK5 := hide ((good_dk _ _).below HDK.out hb5)
    have H6 := hide h6
    clear hwv hb5 h6 H5 HDK
    obtain ⟨s2, hs2⟩ : ∃ s2, pl ((s : Int) + 1) = s2 := ⟨_, rfl⟩
    have hs2l := pl_lt ((s : Int) + 1)
    have hs2n := pl_next s
    rw [hs2] at hs2l hs2n hos
    go_wp2_with fail
    refine (place_any _ _).mono ?_
    rw [hs2]
    rintro e w51 ⟨rfl, rfl⟩
    go_wp2_with fail
    refine (raw_ok HDK5.out s2 hs2l).mono ?_
    rw [show (wait M [] A).M s2 = M s2 from rfl]
    rintro e w6 ⟨ov, rfl, hov, hb6⟩
    have h7 := (H6.out.row ((good_ow _ _).star ((good_ow _ _).star ((good_put _ _ _).star (good_dk _ _)))) hov hb6).mono (fun _ _ h => star_dk5 h)
    obtain ⟨_, _, _, _, _, _, _, _, _, hput⟩ := h7.five
    obtain ⟨_, p1⟩ := hput.cells
    have H7 := hide h7
    clear hov hb6 h7 hput H6 HDK5 q1
    go_wp2_with fail
    refine (full_any pb _).mono ?_
    rintro e w7 ⟨r7, rfl, hr7, hb7⟩
    obtain ⟨F7, hd7, _, hn7⟩ := H7.out.call ((good_ow _ _).star ((good_ow _ _).star ((good_ow _ _).star (good_put _ _ _))))
    have Q7 := hide (And.intro hr7.rd (And.intro ((good_dk _ _).below hd7 hb7) (And.intro (own_farD hr7 hd7) (And.intro hn7 hb7))))
    clear hr7 hd7 hn7 hb7 p1
    go_wp2_with fail
    refine (write_ok Q7.out.2.1 s r7 _ hsl Q7.out.1 (sec_rep _ hpb) Q7.out.2.2.1 rfl (fun h => by cases h) (by show A < _; omega) (by show 0 < _; omega)).mono ?_
    rintro e w8 ⟨rfl, F8, hd8, hx8⟩
    have hd8' : DkA B (wait M [(s, List.replicate 128 pb)] (A + 1)) w8 F8 := hd8
    have h8 := Q7.out.2.2.2.1 _ _ _ hd8' ((Ext.of_below Q7.out.2.2.2.2).trans hx8)
    obtain ⟨_, _, _, _, _, _, _, _, _, hput⟩ := h8.five
    obtain ⟨_, p1⟩ := hput.cells
    have H8 := hide h8
    clear hd8 hd8' hx8 h8 hput Q7 H7
    by_cases hpar : pb % 2 = 1
    · have hp1 : ((pb : Int).tmod 2 == 1) = true := by have : (pb : Int).tmod 2 = 1 := by rw [Int.tmod_eq_emod_of_nonneg (by omega)]; omega
                                                       rw [this]; rfl
      have hp2 : (pb : Int).tmod 2 = 1 := by rw [Int.tmod_eq_emod_of_nonneg (by omega)]; omega
      go_wp2_with fail
      obtain ⟨F9, hd9, _, hn9⟩ := H8.out.call ((good_ow _ _).star ((good_ow _ _).star ((good_ow _ _).star (good_put _ _ _))))
      refine (arm_ok hd9 0 (by omega) rfl).mono ?_
      rintro e w9 ⟨rfl, hd10, hx10⟩
      have H9 := hide (hn9 _ _ _ hd10 hx10)
      clear hd9 hn9 hd10 hx10 H8 p1
      go_wp2_with fail
      obtain ⟨F10, hd10, _, hn10⟩ := H9.out.call ((good_ow _ _).star ((good_ow _ _).star ((good_ow _ _).star (good_put _ _ _))))
      refine (flush_no hd10 (.inr ⟨rfl, rfl⟩)).mono ?_
      rintro e w10 ⟨rfl, hd11, hx11⟩
      have H10 := hide (hn10 _ _ _ hd11 hx11)
      clear hd10 hn10 hd11 hx11 H9
      obtain ⟨DD, hDD⟩ : ∃ DD, ((wait M [(s, List.replicate 128 pb)] (A + 1)).arm 0).off = DD := ⟨_, rfl⟩
      have HDM : Hid (DD.M = M ∧ DD.c = [(s, List.replicate 128 pb)] ∧ DD.acts = A + 1) := by rw [← hDD]; exact ⟨rfl, rfl, rfl⟩
      rw [hDD] at H10
      clear hDD
      go_wp2_with fail
      obtain ⟨F11, hd11, _, hn11⟩ := H10.out.call ((good_ow _ _).star ((good_ow _ _).star ((good_ow _ _).star (good_put _ _ _))))
      obtain ⟨_, _, _, _, _, _, _, _, hdat, _⟩ := H10.out.five
      refine (edit_ok hd11 s t _ z1 hsl hdat.1.rd HYB.out (by rw [HL.out]; exact hle)).mono ?_
      rw [HDM.out.1]
      rintro e w11 ⟨rfl, hd12, hx12⟩
      have H11 := hide ((hn11 _ _ _ hd12 hx12).mono (fun _ _ h => star_want h))
      clear hd11 hn11 hd12 hx12 hdat H10
      go_wp2
      go_loopw [12] (fun i wr => ∃ k : Nat, k ≤ n1 ∧ i = .int .i64 (k : Int) ∧ Sys w wr (star (OwA (.slice (some ⟨gw, 0, none⟩) 128 cw) (splice (M s) t (z1.take k))) (star (DkA B (DD.edit s (splice (M s) t z1))) (star (OwA ov (M s2)) (star (OwA (.slice (some (⟨gd, 0, none⟩ : Addr)) n1 c4) z1) (PutA P ps pb)))))) (fun i _ => n1 - (intOf i).toNat)
      case atStart => exact ⟨0, Nat.zero_le _, rfl, by rw [List.take_zero, splice_nil]; exact H11.out⟩
      case round =>
        obtain ⟨k, hk, rfl, hS⟩ := hrel
        by_cases hlt : k < n1
        · have hdk : decide (k < n1) = true := by simp; omega
          obtain ⟨_, _, _, _, _, hw5, _, _, hda, _⟩ := hS.five
          obtain ⟨gx, hgx⟩ : ∃ gx, (some (⟨gd, 0, none⟩ : Addr)) = some ⟨gx, 0, none⟩ := by
            obtain ⟨g, cc, hv, _⟩ := hda.1.some_of (by rw [HL.out]; omega)
            simp at hv
            exact ⟨g, by simp [hv.1]⟩
          cases hgx
          obtain ⟨y, hy⟩ : ∃ y, z1[k]? = some y := ⟨_, List.getElem?_eq_getElem (by rw [HL.out]; exact hlt)⟩
          have cy := World.ownsRow.cells hda.1 rfl k (By y) (by simp [hy])
          rw [add0] at cy
          have cy' : wr.cell? ⟨_, k, none⟩ = some (.int .u8 (y : Int)) := cy
          have hwl : (splice (M s) t (z1.take k)).length = 128 := by rw [length_splice _ _ _ (by rw [hls, List.length_take, HL.out]; omega)]; exact hls
          have cw0 := hw5.1.cell (j := t + k) (by rw [hwl]; omega)
          have fw0 := hw5.1.frz (t + k)
          have hset := hS.setByte ((good_dk _ _).star ((good_ow _ _).star ((good_ow _ _).star (good_put _ _ _)))) (j := t + k) (z := y)
          rw [splice_set (M s) z1 t k y (by rw [hls, HL.out]; exact hle) hy] at hset
          have HST : Hid (Sys w (wr.setCell ⟨gw, t + k, none⟩ (.int .u8 (y : Int))) _) := hset
          clear hS hw5 hda cy hwl hset hy
          generalize ((splice (M s) t (z1.take k)).getD (t + k) 0) = old at cw0
          have hib : t + k < 128 := by omega
          go_wp2
          go_roundw
          case rel => exact ⟨k + 1, by omega, by go_num, HST.out⟩
          case measure => simp [intOf]; omega
        · have hkN : k = n1 := by omega
          have hS2 := hS.mono (fun _ _ h => star_back h)
          rw [show z1.take k = z1 from List.take_of_length_le (by rw [HL.out]; omega)] at hS2
          have HS := hide hS2
          have hdk : decide (k < n1) = false := by simp; omega
          obtain ⟨_, _, _, _, _, hd13, hov, hwt, _, hput⟩ := hS2.five
          obtain ⟨_, p1⟩ := hput.cells
          have HD13 := hide hd13
          have HOV := hide hov.1.rd
          have HWT := hide hwt.1.rd
          have hsp : (splice (M s) t z1).length = 128 := by rw [length_splice _ _ _ (by rw [hls, HL.out]; exact hle)]; exact hls
          clear hS hS2 hd13 hov hwt hput H11
          generalize splice (M s) t z1 = SP at *
          go_wp2_with fail
          refine (raw_ok HD13.out s hsl).mono ?_
          rw [show (DD.edit s SP).M s = SP from upd_same _ _ _]
          rintro e w13 ⟨rb, rfl, hrb, hb13⟩
          have HRB := hide hrb.rd
          have HB13 := hide hb13
          clear hrb hb13
          go_wp2_with fail
          refine (place_any _ _).mono ?_
          rw [hs2]
          rintro e w14 ⟨rfl, rfl⟩
          go_wp2_with fail
          refine (raw_ok ((good_dk _ _).below HD13.out HB13.out) s2 hs2l).mono ?_
          rw [show (DD.edit s SP).M s2 = M s2 by show upd DD.M s SP s2 = _; rw [upd_other _ _ hs2n, HDM.out.1]]
          rintro e w15 ⟨ro, rfl, hro, hb15⟩
          have HRO := hide hro.rd
          have HB15 := hide hb15
          have HB := hide (HB13.out.trans (hb15.mono HB13.out.size))
          clear hro hb15
          go_wp2_with fail
          refine (same_eq _ _ _ _ (HRB.out.below HB15.out (Nat.le_refl _)) (HWT.out.below HB.out (Nat.le_refl _))).mono ?_
          rintro e w16 ⟨rfl, rfl⟩
          go_wp2_with fail
          refine (same_eq _ _ _ _ HRO.out (HOV.out.below HB.out (Nat.le_refl _))).mono ?_
          rintro e w17 ⟨rfl, rfl⟩
          go_wp2_with fail
          refine (pending_any ((good_dk _ _).below HD13.out HB.out) (by show DD.c.length ≤ _; rw [HDM.out.2.1]; simp)).mono ?_
          rw [show (DD.edit s SP).c = [(s, List.replicate 128 pb)] from HDM.out.2.1]
          rintro e w18 ⟨rp, rfl, hrp, hb18⟩
          obtain ⟨ap, cpp, hrv, _⟩ := World.ownsRow.shape hrp
          have hrv' : rp = .slice ap 1 cpp := hrv
          subst hrv'
          have H18 := hide (HS.out.below ((good_dk _ _).star ((good_ow _ _).star ((good_ow _ _).star ((good_ow _ _).star (good_put _ _ _))))) (HB.out.trans (hb18.mono HB.out.size)))
          obtain ⟨_, _, _, _, _, hd18, _, hwt18, _, hput18⟩ := H18.out.five
          have p3 := hput18.cells.2
          have HD18 := hide hd18
          have HW18 := hide hwt18.1.rd
          clear hrv hrp hb18 hd18 hwt18 hput18 p1 HS HD13 HOV HWT HRB HRO HB HB13 HB15
          go_wp2_with fail
          obtain ⟨F18, hd18, _, hn18⟩ := H18.out.call ((good_ow _ _).star ((good_ow _ _).star ((good_ow _ _).star (good_put _ _ _))))
          refine (crash_nil hd18).mono ?_
          rintro e w19 ⟨rfl, F19, hd19, hx19⟩
          have H19 := hide (hn18 _ _ _ hd19 hx19)
          obtain ⟨_, _, _, _, _, hd20, _, hwt20, _, _⟩ := H19.out.five
          have HD20 := hide hd20
          have HW20 := hide hwt20.1.rd
          clear hd18 hn18 hd19 hx19 hd20 hwt20 H18 HD18 HW18 p3
          go_wp2_with fail
          refine (same2_any HD20.out s hsl rfl _ SP HW20.out (upd_same _ _ _) (upd_same _ _ _)).mono ?_
          rintro e w20 ⟨rfl, hb20⟩
          have HE := hide (H19.out.bel.trans (hb20.mono H19.out.bel.size))
          clear hb20 H19 HD20 HW20
          go_wp2
          go_ret
          exact ⟨rfl, HE.out⟩
    · have hp1 : ((pb : Int).tmod 2 == 1) = false := by have : (pb : Int).tmod 2 = 0 := by rw [Int.tmod_eq_emod_of_nonneg (by omega)]; omega
                                                        rw [this]; rfl
      have hp2 : (pb : Int).tmod 2 = 0 := by rw [Int.tmod_eq_emod_of_nonneg (by omega)]; omega
      have H10 := hide H8.out
      obtain ⟨DD, hDD⟩ : ∃ DD, wait M [(s, List.replicate 128 pb)] (A + 1) = DD := ⟨_, rfl⟩
      have HDM : Hid (DD.M = M ∧ DD.c = [(s, List.replicate 128 pb)] ∧ DD.acts = A + 1) := by rw [← hDD]; exact ⟨rfl, rfl, rfl⟩
      have HDE := hide hDD
      rw [hDD] at H10
      clear hDD H8
      go_wp2_with fail
      obtain ⟨F11, hd11, _, hn11⟩ := H10.out.call ((good_ow _ _).star ((good_ow _ _).star ((good_ow _ _).star (good_put _ _ _))))
      obtain ⟨_, _, _, _, _, _, _, _, hdat, _⟩ := H10.out.five
      refine (edit_ok hd11 s t _ z1 hsl hdat.1.rd HYB.out (by rw [HL.out]; exact hle)).mono ?_
      rw [HDM.out.1]
      rintro e w11 ⟨rfl, hd12, hx12⟩
      have H11 := hide ((hn11 _ _ _ hd12 hx12).mono (fun _ _ h => star_want h))
      clear hd11 hn11 hd12 hx12 hdat H10
      go_wp2
      go_loopw [12] (fun i wr => ∃ k : Nat, k ≤ n1 ∧ i = .int .i64 (k : Int) ∧ Sys w wr (star (OwA (.slice (some ⟨gw, 0, none⟩) 128 cw) (splice (M s) t (z1.take k))) (star (DkA B (DD.edit s (splice (M s) t z1))) (star (OwA ov (M s2)) (star (OwA (.slice (some (⟨gd, 0, none⟩ : Addr)) n1 c4) z1) (PutA P ps pb)))))) (fun i _ => n1 - (intOf i).toNat)
      case atStart => exact ⟨0, Nat.zero_le _, rfl, by rw [List.take_zero, splice_nil]; exact H11.out⟩
      case round =>
        obtain ⟨k, hk, rfl, hS⟩ := hrel
        by_cases hlt : k < n1
        · have hdk : decide (k < n1) = true := by simp; omega
          obtain ⟨_, _, _, _, _, hw5, _, _, hda, _⟩ := hS.five
          obtain ⟨gx, hgx⟩ : ∃ gx, (some (⟨gd, 0, none⟩ : Addr)) = some ⟨gx, 0, none⟩ := by
            obtain ⟨g, cc, hv, _⟩ := hda.1.some_of (by rw [HL.out]; omega)
            simp at hv
            exact ⟨g, by simp [hv.1]⟩
          cases hgx
          obtain ⟨y, hy⟩ : ∃ y, z1[k]? = some y := ⟨_, List.getElem?_eq_getElem (by rw [HL.out]; exact hlt)⟩
          have cy := World.ownsRow.cells hda.1 rfl k (By y) (by simp [hy])
          rw [add0] at cy
          have cy' : wr.cell? ⟨_, k, none⟩ = some (.int .u8 (y : Int)) := cy
          have hwl : (splice (M s) t (z1.take k)).length = 128 := by rw [length_splice _ _ _ (by rw [hls, List.length_take, HL.out]; omega)]; exact hls
          have cw0 := hw5.1.cell (j := t + k) (by rw [hwl]; omega)
          have fw0 := hw5.1.frz (t + k)
          have hset := hS.setByte ((good_dk _ _).star ((good_ow _ _).star ((good_ow _ _).star (good_put _ _ _)))) (j := t + k) (z := y)
          rw [splice_set (M s) z1 t k y (by rw [hls, HL.out]; exact hle) hy] at hset
          have HST : Hid (Sys w (wr.setCell ⟨gw, t + k, none⟩ (.int .u8 (y : Int))) _) := hset
          clear hS hw5 hda cy hwl hset hy
          generalize ((splice (M s) t (z1.take k)).getD (t + k) 0) = old at cw0
          have hib : t + k < 128 := by omega
          go_wp2
          go_roundw
          case rel => exact ⟨k + 1, by omega, by go_num, HST.out⟩
          case measure => simp [intOf]; omega
        · have hkN : k = n1 := by omega
          have hS2 := hS.mono (fun _ _ h => star_back h)
          rw [show z1.take k = z1 from List.take_of_length_le (by rw [HL.out]; omega)] at hS2
          have HS := hide hS2
          have hdk : decide (k < n1) = false := by simp; omega
          obtain ⟨_, _, _, _, _, hd13, hov, hwt, _, hput⟩ := hS2.five
          obtain ⟨_, p1⟩ := hput.cells
          have HD13 := hide hd13
          have HOV := hide hov.1.rd
          have HWT := hide hwt.1.rd
          have hsp : (splice (M s) t z1).length = 128 := by rw [length_splice _ _ _ (by rw [hls, HL.out]; exact hle)]; exact hls
          clear hS hS2 hd13 hov hwt hput H11
          generalize splice (M s) t z1 = SP at *
          go_wp2_with fail
          refine (raw_ok HD13.out s hsl).mono ?_
          rw [show (DD.edit s SP).M s = SP from upd_same _ _ _]
          rintro e w13 ⟨rb, rfl, hrb, hb13⟩
          have HRB := hide hrb.rd
          have HB13 := hide hb13
          clear hrb hb13
          go_wp2_with fail
          refine (place_any _ _).mono ?_
          rw [hs2]
          rintro e w14 ⟨rfl, rfl⟩
          go_wp2_with fail
          refine (raw_ok ((good_dk _ _).below HD13.out HB13.out) s2 hs2l).mono ?_
          rw [show (DD.edit s SP).M s2 = M s2 by show upd DD.M s SP s2 = _; rw [upd_other _ _ hs2n, HDM.out.1]]
          rintro e w15 ⟨ro, rfl, hro, hb15⟩
          have HRO := hide hro.rd
          have HB15 := hide hb15
          have HB := hide (HB13.out.trans (hb15.mono HB13.out.size))
          clear hro hb15
          go_wp2_with fail
          refine (same_eq _ _ _ _ (HRB.out.below HB15.out (Nat.le_refl _)) (HWT.out.below HB.out (Nat.le_refl _))).mono ?_
          rintro e w16 ⟨rfl, rfl⟩
          go_wp2_with fail
          refine (same_eq _ _ _ _ HRO.out (HOV.out.below HB.out (Nat.le_refl _))).mono ?_
          rintro e w17 ⟨rfl, rfl⟩
          go_wp2_with fail
          refine (pending_any ((good_dk _ _).below HD13.out HB.out) (by show DD.c.length ≤ _; rw [HDM.out.2.1]; simp)).mono ?_
          rw [show (DD.edit s SP).c = [(s, List.replicate 128 pb)] from HDM.out.2.1]
          rintro e w18 ⟨rp, rfl, hrp, hb18⟩
          obtain ⟨ap, cpp, hrv, _⟩ := World.ownsRow.shape hrp
          have hrv' : rp = .slice ap 1 cpp := hrv
          subst hrv'
          have H18 := hide (HS.out.below ((good_dk _ _).star ((good_ow _ _).star ((good_ow _ _).star ((good_ow _ _).star (good_put _ _ _))))) (HB.out.trans (hb18.mono HB.out.size)))
          obtain ⟨_, _, _, _, _, hd18, _, hwt18, _, hput18⟩ := H18.out.five
          have p3 := hput18.cells.2
          have HD18 := hide hd18
          have HW18 := hide hwt18.1.rd
          clear hrv hrp hb18 hd18 hwt18 hput18 p1 HS HD13 HOV HWT HRB HRO HB HB13 HB15
          go_wp2_with fail
          have hED : DD.edit s SP = wait (upd M s SP) [(s, List.replicate 128 pb)] (A + 1) := by rw [← HDE.out]; rfl
          rw [hED] at HD18 H18
          refine (read_ok HD18.out s hsl rfl).mono ?_
          rw [seen_one]
          rintro e w19 ⟨r19, rfl, hr19, hb19⟩
          have p4 := cell_up hb19 p3
          have Q19 := hide (And.intro hr19.rd hb19)
          clear hr19 hb19 p3
          go_wp2_with fail
          refine (full_any pb _).mono ?_
          rintro e w20 ⟨r20, rfl, hr20, hb20⟩
          have Q20 := hide (And.intro hr20.rd hb20)
          clear hr20 hb20 p4
          go_wp2_with fail
          refine (same_eq _ _ _ _ (Q19.out.1.below Q20.out.2 (Nat.le_refl _)) Q20.out.1).mono ?_
          rintro e w21 ⟨rfl, rfl⟩
          have H21 := hide (H18.out.below ((good_dk _ _).star ((good_ow _ _).star ((good_ow _ _).star ((good_ow _ _).star (good_put _ _ _))))) (Q19.out.2.trans (Q20.out.2.mono Q19.out.2.size)))
          clear Q19 Q20 H18 HD18 HW18
          go_wp2_with fail
          obtain ⟨F21, hd21, _, hn21⟩ := H21.out.call ((good_ow _ _).star ((good_ow _ _).star ((good_ow _ _).star (good_put _ _ _))))
          refine (flush_ok hd21 rfl (fun h => by cases h) (by show A + 1 < _; omega)).mono ?_
          rw [flush_wait]
          rintro e w22 ⟨rfl, F22, hd22, hx22⟩
          have H22 := hide (hn21 _ _ _ hd22 hx22)
          obtain ⟨_, _, _, _, _, hd23, _, _, _, hput23⟩ := H22.out.five
          have p5 := hput23.cells.2
          have HD23 := hide hd23
          clear hd21 hn21 hd22 hx22 hd23 hput23 H21
          go_wp2_with fail
          refine (full_any pb _).mono ?_
          rintro e w23 ⟨r23, rfl, hr23, hb23⟩
          have Q23 := hide (And.intro hr23.rd hb23)
          clear hr23 hb23 p5
          go_wp2_with fail
          refine (same2_any ((good_dk _ _).below HD23.out Q23.out.2) s hsl rfl _ (List.replicate 128 pb) Q23.out.1 (upd_same _ _ _) (upd_same _ _ _)).mono ?_
          rintro e w24 ⟨rfl, hb24⟩
          have HE := hide ((H22.out.bel.trans (Q23.out.2.mono H22.out.bel.size)).trans (hb24.mono (Nat.le_trans H22.out.bel.size Q23.out.2.size)))
          clear hb24 H22 HD23 Q23
          go_wp2
          go_ret
          exact ⟨rfl, HE.out⟩
  · have hd1 : decide (n1 < nz) = false := by simp; omega
    have H5 := hide h4
    have hle : t + nz ≤ 128 := by omega
    have HL := hide HNZ.out
    have HYB := hide HZB.out
    clear h4 hown
    go_wp2_with fail
    obtain ⟨_, _, _, _, _, hdk⟩ := H5.out.three
    have hls : (M s).length = 128 := by obtain ⟨_, _, h, _⟩ := hdk; exact (h.ok.m s hsl).1
    have hos : (M (pl ((s : Int) + 1))).length = 128 := by obtain ⟨_, _, h, _⟩ := hdk; exact (h.ok.m _ (pl_lt _)).1
    have HDK := hide hdk
    clear hdk
    refine (raw_ok HDK.out s hsl).mono ?_
    rw [show (wait M [] A).M s = M s from rfl]
    rintro e w5 ⟨wv, rfl, hwv, hb5⟩
    obtain ⟨gw, cw, hwvv, _, hcw, _⟩ := hwv.some_of (by rw [hls]; omega)
    rw [hls] at hwvv
    subst hwvv
    have h6 := H5.out.row ((good_ow _ _).star ((good_put _ _ _).star (good_dk _ _))) hwv hb5
    have HDK5 := hide ((good_dk _ _).below HDK.out hb5)
    have H6 := hide h6
    clear hwv hb5 h6 H5 HDK
    obtain ⟨s2, hs2⟩ : ∃ s2, pl ((s : Int) + 1) = s2 := ⟨_, rfl⟩
    have hs2l := pl_lt ((s : Int) + 1)
    have hs2n := pl_next s
    rw [hs2] at hs2l hs2n hos
    go_wp2_with fail
    refine (place_any _ _).mono ?_
    rw [hs2]
    rintro e w51 ⟨rfl, rfl⟩
    go_wp2_with fail
    refine (raw_ok HDK5.out s2 hs2l).mono ?_
    rw [show (wait M [] A).M s2 = M s2 from rfl]
    rintro e w6 ⟨ov, rfl, hov, hb6⟩
    have h7 := (H6.out.row ((good_ow _ _).star ((good_ow _ _).star ((good_put _ _ _).star (good_dk _ _)))) hov hb6).mono (fun _ _ h => star_dk5 h)
    obtain ⟨_, _, _, _, _, _, _, _, _, hput⟩ := h7.five
    obtain ⟨_, p1⟩ := hput.cells
    have H7 := hide h7
    clear hov hb6 h7 hput H6 HDK5 q1
    go_wp2_with fail
    refine (full_any pb _).mono ?_
    rintro e w7 ⟨r7, rfl, hr7, hb7⟩
    obtain ⟨F7, hd7, _, hn7⟩ := H7.out.call ((good_ow _ _).star ((good_ow _ _).star ((good_ow _ _).star (good_put _ _ _))))
    have Q7 := hide (And.intro hr7.rd (And.intro ((good_dk _ _).below hd7 hb7) (And.intro (own_farD hr7 hd7) (And.intro hn7 hb7))))
    clear hr7 hd7 hn7 hb7 p1
    go_wp2_with fail
    refine (write_ok Q7.out.2.1 s r7 _ hsl Q7.out.1 (sec_rep _ hpb) Q7.out.2.2.1 rfl (fun h => by cases h) (by show A < _; omega) (by show 0 < _; omega)).mono ?_
    rintro e w8 ⟨rfl, F8, hd8, hx8⟩
    have hd8' : DkA B (wait M [(s, List.replicate 128 pb)] (A + 1)) w8 F8 := hd8
    have h8 := Q7.out.2.2.2.1 _ _ _ hd8' ((Ext.of_below Q7.out.2.2.2.2).trans hx8)
    obtain ⟨_, _, _, _, _, _, _, _, _, hput⟩ := h8.five
    obtain ⟨_, p1⟩ := hput.cells
    have H8 := hide h8
    clear hd8 hd8' hx8 h8 hput Q7 H7
    by_cases hpar : pb % 2 = 1
    · have hp1 : ((pb : Int).tmod 2 == 1) = true := by have : (pb : Int).tmod 2 = 1 := by rw [Int.tmod_eq_emod_of_nonneg (by omega)]; omega
                                                       rw [this]; rfl
      have hp2 : (pb : Int).tmod 2 = 1 := by rw [Int.tmod_eq_emod_of_nonneg (by omega)]; omega
      go_wp2_with fail
      obtain ⟨F9, hd9, _, hn9⟩ := H8.out.call ((good_ow _ _).star ((good_ow _ _).star ((good_ow _ _).star (good_put _ _ _))))
      refine (arm_ok hd9 0 (by omega) rfl).mono ?_
      rintro e w9 ⟨rfl, hd10, hx10⟩
      have H9 := hide (hn9 _ _ _ hd10 hx10)
      clear hd9 hn9 hd10 hx10 H8 p1
      go_wp2_with fail
      obtain ⟨F10, hd10, _, hn10⟩ := H9.out.call ((good_ow _ _).star ((good_ow _ _).star ((good_ow _ _).star (good_put _ _ _))))
      refine (flush_no hd10 (.inr ⟨rfl, rfl⟩)).mono ?_
      rintro e w10 ⟨rfl, hd11, hx11⟩
      have H10 := hide (hn10 _ _ _ hd11 hx11)
      clear hd10 hn10 hd11 hx11 H9
      obtain ⟨DD, hDD⟩ : ∃ DD, ((wait M [(s, List.replicate 128 pb)] (A + 1)).arm 0).off = DD := ⟨_, rfl⟩
      have HDM : Hid (DD.M = M ∧ DD.c = [(s, List.replicate 128 pb)] ∧ DD.acts = A + 1) := by rw [← hDD]; exact ⟨rfl, rfl, rfl⟩
      rw [hDD] at H10
      clear hDD
      go_wp2_with fail
      obtain ⟨F11, hd11, _, hn11⟩ := H10.out.call ((good_ow _ _).star ((good_ow _ _).star ((good_ow _ _).star (good_put _ _ _))))
      obtain ⟨_, _, _, _, _, _, _, _, hdat, _⟩ := H10.out.five
      refine (edit_ok hd11 s t _ zs hsl hdat.1.rd HYB.out (by rw [HL.out]; exact hle)).mono ?_
      rw [HDM.out.1]
      rintro e w11 ⟨rfl, hd12, hx12⟩
      have H11 := hide ((hn11 _ _ _ hd12 hx12).mono (fun _ _ h => star_want h))
      clear hd11 hn11 hd12 hx12 hdat H10
      go_wp2
      go_loopw [12] (fun i wr => ∃ k : Nat, k ≤ nz ∧ i = .int .i64 (k : Int) ∧ Sys w wr (star (OwA (.slice (some ⟨gw, 0, none⟩) 128 cw) (splice (M s) t (zs.take k))) (star (DkA B (DD.edit s (splice (M s) t zs))) (star (OwA ov (M s2)) (star (OwA (.slice ao nz c4) zs) (PutA P ps pb)))))) (fun i _ => nz - (intOf i).toNat)
      case atStart => exact ⟨0, Nat.zero_le _, rfl, by rw [List.take_zero, splice_nil]; exact H11.out⟩
      case round =>
        obtain ⟨k, hk, rfl, hS⟩ := hrel
        by_cases hlt : k < nz
        · have hdk : decide (k < nz) = true := by simp; omega
          obtain ⟨_, _, _, _, _, hw5, _, _, hda, _⟩ := hS.five
          obtain ⟨gx, hgx⟩ : ∃ gx, ao = some ⟨gx, 0, none⟩ := by
            obtain ⟨g, cc, hv, _⟩ := hda.1.some_of (by rw [HL.out]; omega)
            simp at hv
            exact ⟨g, by simp [hv.1]⟩
          cases hgx
          obtain ⟨y, hy⟩ : ∃ y, zs[k]? = some y := ⟨_, List.getElem?_eq_getElem (by rw [HL.out]; exact hlt)⟩
          have cy := World.ownsRow.cells hda.1 rfl k (By y) (by simp [hy])
          rw [add0] at cy
          have cy' : wr.cell? ⟨_, k, none⟩ = some (.int .u8 (y : Int)) := cy
          have hwl : (splice (M s) t (zs.take k)).length = 128 := by rw [length_splice _ _ _ (by rw [hls, List.length_take, HL.out]; omega)]; exact hls
          have cw0 := hw5.1.cell (j := t + k) (by rw [hwl]; omega)
          have fw0 := hw5.1.frz (t + k)
          have hset := hS.setByte ((good_dk _ _).star ((good_ow _ _).star ((good_ow _ _).star (good_put _ _ _)))) (j := t + k) (z := y)
          rw [splice_set (M s) zs t k y (by rw [hls, HL.out]; exact hle) hy] at hset
          have HST : Hid (Sys w (wr.setCell ⟨gw, t + k, none⟩ (.int .u8 (y : Int))) _) := hset
          clear hS hw5 hda cy hwl hset hy
          generalize ((splice (M s) t (zs.take k)).getD (t + k) 0) = old at cw0
          have hib : t + k < 128 := by omega
          go_wp2
          go_roundw
          case rel => exact ⟨k + 1, by omega, by go_num, HST.out⟩
          case measure => simp [intOf]; omega
        · have hkN : k = nz := by omega
          have hS2 := hS.mono (fun _ _ h => star_back h)
          rw [show zs.take k = zs from List.take_of_length_le (by rw [HL.out]; omega)] at hS2
          have HS := hide hS2
          have hdk : decide (k < nz) = false := by simp; omega
          obtain ⟨_, _, _, _, _, hd13, hov, hwt, _, hput⟩ := hS2.five
          obtain ⟨_, p1⟩ := hput.cells
          have HD13 := hide hd13
          have HOV := hide hov.1.rd
          have HWT := hide hwt.1.rd
          have hsp : (splice (M s) t zs).length = 128 := by rw [length_splice _ _ _ (by rw [hls, HL.out]; exact hle)]; exact hls
          clear hS hS2 hd13 hov hwt hput H11
          generalize splice (M s) t zs = SP at *
          go_wp2_with fail
          refine (raw_ok HD13.out s hsl).mono ?_
          rw [show (DD.edit s SP).M s = SP from upd_same _ _ _]
          rintro e w13 ⟨rb, rfl, hrb, hb13⟩
          have HRB := hide hrb.rd
          have HB13 := hide hb13
          clear hrb hb13
          go_wp2_with fail
          refine (place_any _ _).mono ?_
          rw [hs2]
          rintro e w14 ⟨rfl, rfl⟩
          go_wp2_with fail
          refine (raw_ok ((good_dk _ _).below HD13.out HB13.out) s2 hs2l).mono ?_
          rw [show (DD.edit s SP).M s2 = M s2 by show upd DD.M s SP s2 = _; rw [upd_other _ _ hs2n, HDM.out.1]]
          rintro e w15 ⟨ro, rfl, hro, hb15⟩
          have HRO := hide hro.rd
          have HB15 := hide hb15
          have HB := hide (HB13.out.trans (hb15.mono HB13.out.size))
          clear hro hb15
          go_wp2_with fail
          refine (same_eq _ _ _ _ (HRB.out.below HB15.out (Nat.le_refl _)) (HWT.out.below HB.out (Nat.le_refl _))).mono ?_
          rintro e w16 ⟨rfl, rfl⟩
          go_wp2_with fail
          refine (same_eq _ _ _ _ HRO.out (HOV.out.below HB.out (Nat.le_refl _))).mono ?_
          rintro e w17 ⟨rfl, rfl⟩
          go_wp2_with fail
          refine (pending_any ((good_dk _ _).below HD13.out HB.out) (by show DD.c.length ≤ _; rw [HDM.out.2.1]; simp)).mono ?_
          rw [show (DD.edit s SP).c = [(s, List.replicate 128 pb)] from HDM.out.2.1]
          rintro e w18 ⟨rp, rfl, hrp, hb18⟩
          obtain ⟨ap, cpp, hrv, _⟩ := World.ownsRow.shape hrp
          have hrv' : rp = .slice ap 1 cpp := hrv
          subst hrv'
          have H18 := hide (HS.out.below ((good_dk _ _).star ((good_ow _ _).star ((good_ow _ _).star ((good_ow _ _).star (good_put _ _ _))))) (HB.out.trans (hb18.mono HB.out.size)))
          obtain ⟨_, _, _, _, _, hd18, _, hwt18, _, hput18⟩ := H18.out.five
          have p3 := hput18.cells.2
          have HD18 := hide hd18
          have HW18 := hide hwt18.1.rd
          clear hrv hrp hb18 hd18 hwt18 hput18 p1 HS HD13 HOV HWT HRB HRO HB HB13 HB15
          go_wp2_with fail
          obtain ⟨F18, hd18, _, hn18⟩ := H18.out.call ((good_ow _ _).star ((good_ow _ _).star ((good_ow _ _).star (good_put _ _ _))))
          refine (crash_nil hd18).mono ?_
          rintro e w19 ⟨rfl, F19, hd19, hx19⟩
          have H19 := hide (hn18 _ _ _ hd19 hx19)
          obtain ⟨_, _, _, _, _, hd20, _, hwt20, _, _⟩ := H19.out.five
          have HD20 := hide hd20
          have HW20 := hide hwt20.1.rd
          clear hd18 hn18 hd19 hx19 hd20 hwt20 H18 HD18 HW18 p3
          go_wp2_with fail
          refine (same2_any HD20.out s hsl rfl _ SP HW20.out (upd_same _ _ _) (upd_same _ _ _)).mono ?_
          rintro e w20 ⟨rfl, hb20⟩
          have HE := hide (H19.out.bel.trans (hb20.mono H19.out.bel.size))
          clear hb20 H19 HD20 HW20
          go_wp2
          go_ret
          exact ⟨rfl, HE.out⟩
    · have hp1 : ((pb : Int).tmod 2 == 1) = false := by have : (pb : Int).tmod 2 = 0 := by rw [Int.tmod_eq_emod_of_nonneg (by omega)]; omega
                                                        rw [this]; rfl
      have hp2 : (pb : Int).tmod 2 = 0 := by rw [Int.tmod_eq_emod_of_nonneg (by omega)]; omega
      have H10 := hide H8.out
      obtain ⟨DD, hDD⟩ : ∃ DD, wait M [(s, List.replicate 128 pb)] (A + 1) = DD := ⟨_, rfl⟩
      have HDM : Hid (DD.M = M ∧ DD.c = [(s, List.replicate 128 pb)] ∧ DD.acts = A + 1) := by rw [← hDD]; exact ⟨rfl, rfl, rfl⟩
      have HDE := hide hDD
      rw [hDD] at H10
      clear hDD H8
      go_wp2_with fail
      obtain ⟨F11, hd11, _, hn11⟩ := H10.out.call ((good_ow _ _).star ((good_ow _ _).star ((good_ow _ _).star (good_put _ _ _))))
      obtain ⟨_, _, _, _, _, _, _, _, hdat, _⟩ := H10.out.five
      refine (edit_ok hd11 s t _ zs hsl hdat.1.rd HYB.out (by rw [HL.out]; exact hle)).mono ?_
      rw [HDM.out.1]
      rintro e w11 ⟨rfl, hd12, hx12⟩
      have H11 := hide ((hn11 _ _ _ hd12 hx12).mono (fun _ _ h => star_want h))
      clear hd11 hn11 hd12 hx12 hdat H10
      go_wp2
      go_loopw [12] (fun i wr => ∃ k : Nat, k ≤ nz ∧ i = .int .i64 (k : Int) ∧ Sys w wr (star (OwA (.slice (some ⟨gw, 0, none⟩) 128 cw) (splice (M s) t (zs.take k))) (star (DkA B (DD.edit s (splice (M s) t zs))) (star (OwA ov (M s2)) (star (OwA (.slice ao nz c4) zs) (PutA P ps pb)))))) (fun i _ => nz - (intOf i).toNat)
      case atStart => exact ⟨0, Nat.zero_le _, rfl, by rw [List.take_zero, splice_nil]; exact H11.out⟩
      case round =>
        obtain ⟨k, hk, rfl, hS⟩ := hrel
        by_cases hlt : k < nz
        · have hdk : decide (k < nz) = true := by simp; omega
          obtain ⟨_, _, _, _, _, hw5, _, _, hda, _⟩ := hS.five
          obtain ⟨gx, hgx⟩ : ∃ gx, ao = some ⟨gx, 0, none⟩ := by
            obtain ⟨g, cc, hv, _⟩ := hda.1.some_of (by rw [HL.out]; omega)
            simp at hv
            exact ⟨g, by simp [hv.1]⟩
          cases hgx
          obtain ⟨y, hy⟩ : ∃ y, zs[k]? = some y := ⟨_, List.getElem?_eq_getElem (by rw [HL.out]; exact hlt)⟩
          have cy := World.ownsRow.cells hda.1 rfl k (By y) (by simp [hy])
          rw [add0] at cy
          have cy' : wr.cell? ⟨_, k, none⟩ = some (.int .u8 (y : Int)) := cy
          have hwl : (splice (M s) t (zs.take k)).length = 128 := by rw [length_splice _ _ _ (by rw [hls, List.length_take, HL.out]; omega)]; exact hls
          have cw0 := hw5.1.cell (j := t + k) (by rw [hwl]; omega)
          have fw0 := hw5.1.frz (t + k)
          have hset := hS.setByte ((good_dk _ _).star ((good_ow _ _).star ((good_ow _ _).star (good_put _ _ _)))) (j := t + k) (z := y)
          rw [splice_set (M s) zs t k y (by rw [hls, HL.out]; exact hle) hy] at hset
          have HST : Hid (Sys w (wr.setCell ⟨gw, t + k, none⟩ (.int .u8 (y : Int))) _) := hset
          clear hS hw5 hda cy hwl hset hy
          generalize ((splice (M s) t (zs.take k)).getD (t + k) 0) = old at cw0
          have hib : t + k < 128 := by omega
          go_wp2
          go_roundw
          case rel => exact ⟨k + 1, by omega, by go_num, HST.out⟩
          case measure => simp [intOf]; omega
        · have hkN : k = nz := by omega
          have hS2 := hS.mono (fun _ _ h => star_back h)
          rw [show zs.take k = zs from List.take_of_length_le (by rw [HL.out]; omega)] at hS2
          have HS := hide hS2
          have hdk : decide (k < nz) = false := by simp; omega
          obtain ⟨_, _, _, _, _, hd13, hov, hwt, _, hput⟩ := hS2.five
          obtain ⟨_, p1⟩ := hput.cells
          have HD13 := hide hd13
          have HOV := hide hov.1.rd
          have HWT := hide hwt.1.rd
          have hsp : (splice (M s) t zs).length = 128 := by rw [length_splice _ _ _ (by rw [hls, HL.out]; exact hle)]; exact hls
          clear hS hS2 hd13 hov hwt hput H11
          generalize splice (M s) t zs = SP at *
          go_wp2_with fail
          refine (raw_ok HD13.out s hsl).mono ?_
          rw [show (DD.edit s SP).M s = SP from upd_same _ _ _]
          rintro e w13 ⟨rb, rfl, hrb, hb13⟩
          have HRB := hide hrb.rd
          have HB13 := hide hb13
          clear hrb hb13
          go_wp2_with fail
          refine (place_any _ _).mono ?_
          rw [hs2]
          rintro e w14 ⟨rfl, rfl⟩
          go_wp2_with fail
          refine (raw_ok ((good_dk _ _).below HD13.out HB13.out) s2 hs2l).mono ?_
          rw [show (DD.edit s SP).M s2 = M s2 by show upd DD.M s SP s2 = _; rw [upd_other _ _ hs2n, HDM.out.1]]
          rintro e w15 ⟨ro, rfl, hro, hb15⟩
          have HRO := hide hro.rd
          have HB15 := hide hb15
          have HB := hide (HB13.out.trans (hb15.mono HB13.out.size))
          clear hro hb15
          go_wp2_with fail
          refine (same_eq _ _ _ _ (HRB.out.below HB15.out (Nat.le_refl _)) (HWT.out.below HB.out (Nat.le_refl _))).mono ?_
          rintro e w16 ⟨rfl, rfl⟩
          go_wp2_with fail
          refine (same_eq _ _ _ _ HRO.out (HOV.out.below HB.out (Nat.le_refl _))).mono ?_
          rintro e w17 ⟨rfl, rfl⟩
          go_wp2_with fail
          refine (pending_any ((good_dk _ _).below HD13.out HB.out) (by show DD.c.length ≤ _; rw [HDM.out.2.1]; simp)).mono ?_
          rw [show (DD.edit s SP).c = [(s, List.replicate 128 pb)] from HDM.out.2.1]
          rintro e w18 ⟨rp, rfl, hrp, hb18⟩
          obtain ⟨ap, cpp, hrv, _⟩ := World.ownsRow.shape hrp
          have hrv' : rp = .slice ap 1 cpp := hrv
          subst hrv'
          have H18 := hide (HS.out.below ((good_dk _ _).star ((good_ow _ _).star ((good_ow _ _).star ((good_ow _ _).star (good_put _ _ _))))) (HB.out.trans (hb18.mono HB.out.size)))
          obtain ⟨_, _, _, _, _, hd18, _, hwt18, _, hput18⟩ := H18.out.five
          have p3 := hput18.cells.2
          have HD18 := hide hd18
          have HW18 := hide hwt18.1.rd
          clear hrv hrp hb18 hd18 hwt18 hput18 p1 HS HD13 HOV HWT HRB HRO HB HB13 HB15
          go_wp2_with fail
          have hED : DD.edit s SP = wait (upd M s SP) [(s, List.replicate 128 pb)] (A + 1) := by rw [← HDE.out]; rfl
          rw [hED] at HD18 H18
          refine (read_ok HD18.out s hsl rfl).mono ?_
          rw [seen_one]
          rintro e w19 ⟨r19, rfl, hr19, hb19⟩
          have p4 := cell_up hb19 p3
          have Q19 := hide (And.intro hr19.rd hb19)
          clear hr19 hb19 p3
          go_wp2_with fail
          refine (full_any pb _).mono ?_
          rintro e w20 ⟨r20, rfl, hr20, hb20⟩
          have Q20 := hide (And.intro hr20.rd hb20)
          clear hr20 hb20 p4
          go_wp2_with fail
          refine (same_eq _ _ _ _ (Q19.out.1.below Q20.out.2 (Nat.le_refl _)) Q20.out.1).mono ?_
          rintro e w21 ⟨rfl, rfl⟩
          have H21 := hide (H18.out.below ((good_dk _ _).star ((good_ow _ _).star ((good_ow _ _).star ((good_ow _ _).star (good_put _ _ _))))) (Q19.out.2.trans (Q20.out.2.mono Q19.out.2.size)))
          clear Q19 Q20 H18 HD18 HW18
          go_wp2_with fail
          obtain ⟨F21, hd21, _, hn21⟩ := H21.out.call ((good_ow _ _).star ((good_ow _ _).star ((good_ow _ _).star (good_put _ _ _))))
          refine (flush_ok hd21 rfl (fun h => by cases h) (by show A + 1 < _; omega)).mono ?_
          rw [flush_wait]
          rintro e w22 ⟨rfl, F22, hd22, hx22⟩
          have H22 := hide (hn21 _ _ _ hd22 hx22)
          obtain ⟨_, _, _, _, _, hd23, _, _, _, hput23⟩ := H22.out.five
          have p5 := hput23.cells.2
          have HD23 := hide hd23
          clear hd21 hn21 hd22 hx22 hd23 hput23 H21
          go_wp2_with fail
          refine (full_any pb _).mono ?_
          rintro e w23 ⟨r23, rfl, hr23, hb23⟩
          have Q23 := hide (And.intro hr23.rd hb23)
          clear hr23 hb23 p5
          go_wp2_with fail
          refine (same2_any ((good_dk _ _).below HD23.out Q23.out.2) s hsl rfl _ (List.replicate 128 pb) Q23.out.1 (upd_same _ _ _) (upd_same _ _ _)).mono ?_
          rintro e w24 ⟨rfl, hb24⟩
          have HE := hide ((H22.out.bel.trans (Q23.out.2.mono H22.out.bel.size)).trans (hb24.mono (Nat.le_trans H22.out.bel.size Q23.out.2.size)))
          clear hb24 H22 HD23 Q23
          go_wp2
          go_ret
          exact ⟨rfl, HE.out⟩
end Go.Proofs.Ytemkmjeioghofaa
