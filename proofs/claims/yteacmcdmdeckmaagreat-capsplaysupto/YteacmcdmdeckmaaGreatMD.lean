import Derived.Test.YteacmcdmdeckmaaGreatMC
namespace Go.Proofs.YteacmcdmdeckmaaGreat
open Go.RowKit

/-- the rows without the i-th, each turned -/
def tkT (f : Rc → Rc) (K : List Rw) (i k : Nat) : List Rw := (if k ≤ i then K.take k else K.take i ++ (K.drop (i + 1)).take (k - (i + 1))).map (fun x => (x.1, f x.2))
theorem tkT_zero (f : Rc → Rc) (K : List Rw) (i : Nat) : tkT f K i 0 = [] := by simp [tkT]
theorem tkT_at (f : Rc → Rc) (K : List Rw) (k : Nat) : tkT f K k k = tkT f K k (k + 1) := by
  unfold tkT; rw [if_pos (Nat.le_refl _), if_neg (by omega), Nat.sub_self]; simp
theorem tkT_next (f : Rc → Rc) {K : List Rw} {i k : Nat} {y : Rw} (hne : ¬ k = i) (hy : K[k]? = some y) : tkT f K i (k + 1) = tkT f K i k ++ [(y.1, f y.2)] := by
  unfold tkT
  by_cases h : k < i
  · rw [if_pos (by omega), if_pos (by omega), take_get hy, List.map_append]; rfl
  · have hd : (K.drop (i + 1))[k - (i + 1)]? = some y := by rw [List.getElem?_drop, show i + 1 + (k - (i + 1)) = k by omega]; exact hy
    rw [if_neg (by omega), if_neg (by omega), show k + 1 - (i + 1) = (k - (i + 1)) + 1 by omega, take_get hd, ← List.append_assoc, List.map_append]; rfl
theorem tkT_all (f : Rc → Rc) {K : List Rw} {i : Nat} (hi : i < K.length) : tkT f K i K.length = (K.take i ++ K.drop (i + 1)).map (fun x => (x.1, f x.2)) := by
  unfold tkT; rw [if_neg (by omega), List.take_of_length_le (l := K.drop (i + 1)) (by simp)]
theorem Ag.take {bk bk' : List (Option Lst)} {K : List Rw} (h : Ag bk K) {i ga gb : Nat} {gr : Rc} (hi : K[i]? = some ((ga, gb), gr)) (hd : DropR bk ga gb gr bk') : Ag bk' (tkT (rp ga gb gr) K i K.length) := by
  have hil := (List.getElem?_eq_some_iff.1 hi).1
  have hsp : K = K.take i ++ ((ga, gb), gr) :: K.drop (i + 1) := by
    obtain ⟨h1, h2⟩ := List.getElem?_eq_some_iff.1 hi
    rw [← h2, ← List.drop_eq_getElem_cons h1, List.take_append_drop]
  rw [tkT_all _ hil]
  have hs := h.srt
  rw [hsp] at hs
  obtain ⟨s1, s2, s3⟩ := List.pairwise_append.1 hs
  obtain ⟨s4, s5⟩ := List.pairwise_cons.1 s2
  refine ⟨?_, fun a b r => ?_⟩
  · rw [List.pairwise_map, List.pairwise_append]
    exact ⟨s1, s5, fun x hx y hy => s3 x hx y (List.mem_cons_of_mem _ hy)⟩
  · rw [hd.2 a b]
    have hin : ∀ x : Rw, x ∈ K.take i ++ K.drop (i + 1) ↔ x ∈ K ∧ x.1 ≠ (ga, gb) := by
      intro x
      constructor
      · intro hx
        rw [List.mem_append] at hx
        refine ⟨by rw [hsp, List.mem_append, List.mem_cons]; exact hx.elim .inl (fun h => .inr (.inr h)), fun e => ?_⟩
        rcases hx with hx | hx
        · have := s3 x hx _ (List.mem_cons_self ..)
          rw [e] at this; exact plt_irr _ this
        · have := s4 x hx
          rw [e] at this; exact plt_irr _ this
      · rintro ⟨hx, hne⟩
        rw [hsp, List.mem_append, List.mem_cons] at hx
        rw [List.mem_append]
        rcases hx with hx | hx | hx
        · exact .inl hx
        · rw [hx] at hne; exact absurd rfl hne
        · exact .inr hx
    rw [List.mem_map]
    constructor
    · rintro ⟨x, hx, e⟩
      obtain ⟨hx1, hx2⟩ := (hin x).1 hx
      obtain ⟨⟨xa, xb⟩, xr⟩ := x
      simp only [Prod.mk.injEq] at e
      obtain ⟨⟨rfl, rfl⟩, rfl⟩ := e
      rw [if_neg (fun e => hx2 (by rw [e.1, e.2])), (h.mem xa xb xr).1 hx1]; rfl
    · intro hq
      split at hq
      · cases hq
      · rename_i hne
        cases hr : atB bk (a : Int) (b : Int) with
        | none => rw [hr] at hq; cases hq
        | some r' =>
          rw [hr] at hq
          refine ⟨((a, b), r'), (hin _).2 ⟨(h.mem a b r').2 hr, fun e => hne ⟨congrArg Prod.fst e, congrArg Prod.snd e⟩⟩, ?_⟩
          simp only [Option.map_some, Option.some.injEq] at hq
          rw [← hq]
section
variable {w : World} {R : Nat} {bk bk' : List (Option Lst)} {F : Nat → Prop} {v : Value} {K : List Rw}
set_option maxRecDepth 100000 in
set_option maxHeartbeats 6400000 in
theorem takeD_any (h : RbAt w R v bk K) (ha : Ag bk K) (he : ∀ b, F b ↔ b = R ∨ v.ownBlock = some b) (hp : P8 bk) (i ga gb : Nat) (gr : Rc) (hgi : K[i]? = some ((ga, gb), gr)) (hdr : DropR bk ga gb gr bk') :
    Calls Tryz.prog 74 #[tp R, .int .i64 (i : Int)] w fun x w' => x = .returned (.tuple #[]) ∧ ∃ v' F', RbAt w' R v' bk' (tkT (rp ga gb gr) K i K.length) ∧ (∀ b, F' b ↔ b = R ∨ v'.ownBlock = some b) ∧ Ext F w F' w' := by
  obtain ⟨i8, hi, hz, hs, hb⟩ := infoRow
  have HR := hide h
  have HA := hide ha
  have HE := hide he
  have HG := hide hgi
  have HD := hide hdr
  have Hlt := hide h.lt
  have hlen := ha.len hp
  have c16 := h.rowc
  obtain ⟨g, c, hv, hrow⟩ := h.at hgi
  have hil0 := (List.getElem?_eq_some_iff.1 hgi).1
  obtain ⟨L, hL⟩ : ∃ L, K.length = L := ⟨_, rfl⟩
  rw [hL] at hv hlen hil0
  have HL := hide hL
  subst hv
  have hil : (i : Int) < (L : Int) := by omega
  obtain ⟨r0, r1, r2, r3, r4, r5, r6, r7⟩ := hrow
  simp only at r0 r1 r2 r3 r4 r5 r6 r7
  clear h ha he hgi hdr hp hL
  go_enter Tryz.func74, Tryz.ntmps74
  go_wp2
  go_loopw [5, 6] (fun rv x wr => ∃ k : Nat, k ≤ L ∧ x = .int .i64 (k : Int) ∧ ∃ (n : Nat) (a2 : Option Addr) (c2 : Nat), rv = .slice a2 n c2 ∧ n ≤ k ∧ Hid (∃ acc, acc.length = n ∧ Below w.heap.size w wr ∧ wr.heap[w.heap.size]? = some (.cells #[.int .i64 (ga : Int), .int .i64 (gb : Int), .int .i64 gr.k, .int .i64 gr.o, .int .i64 gr.s, .int .i64 gr.r, .int .i64 gr.e, .int .i64 gr.t] 60 (0, 0)) ∧ wr.ownsRow (w.heap.size + 1) 60 8 (.slice a2 n c2) n (encW acc) ∧ acc = tkT (rp ga gb gr) K i k)) (fun _ x _ => L - (intOf x).toNat)
  case atStart => exact ⟨0, by omega, rfl, 0, none, 0, rfl, by omega, hide ⟨[], rfl, (Below.refl _ _).alloc (Nat.le_refl _) _, heap_alloc_last _ _, World.ownsRow_nil _ _ _ _, (tkT_zero _ _ _).symm⟩⟩
  case round =>
  clear c16 r0 r1 r2 r3 r4 r5 r6 r7
  obtain ⟨k, hk, rfl, n, a2, c2, rfl, hn, KK⟩ := hrel
  obtain ⟨acc, hacc, hbel, hbox, hown, hac⟩ := KK.out
  have hRr := HR.out.below hbel
  have c16 := hRr.rowc
  by_cases hlt : k < L
  · have hd : decide ((k : Int) < (L : Int)) = true := by simp; omega
    have hki : (k : Int) < (L : Int) := by omega
    obtain ⟨⟨⟨ya, yb⟩, yr⟩, hy⟩ : ∃ y, K[k]? = some y := ⟨_, List.getElem?_eq_getElem (by rw [HL.out]; exact hlt)⟩
    obtain ⟨r0, r1, r2, r3, r4, r5, r6, r7⟩ := hRr.row8 hy
    simp only at r0 r1 r2 r3 r4 r5 r6 r7
    have HY := hide hy
    have HLa := hide hacc
    have HAc := hide hac
    obtain ⟨Br, hBr⟩ : ∃ B, B = wr.heap.size := ⟨_, rfl⟩
    have hba := (Below.refl wr.heap.size wr).alloc (Nat.le_refl _) (.cells #[.int .i64 (ya : Int), .int .i64 (yb : Int), .int .i64 yr.k, .int .i64 yr.o, .int .i64 yr.s, .int .i64 yr.r, .int .i64 yr.e, .int .i64 yr.t] 60)
    have hyb : (wr.alloc (.cells #[.int .i64 (ya : Int), .int .i64 (yb : Int), .int .i64 yr.k, .int .i64 yr.o, .int .i64 yr.s, .int .i64 yr.r, .int .i64 yr.e, .int .i64 yr.t] 60)).heap[Br]? = some (.cells #[.int .i64 (ya : Int), .int .i64 (yb : Int), .int .i64 yr.k, .int .i64 yr.o, .int .i64 yr.s, .int .i64 yr.r, .int .i64 yr.e, .int .i64 yr.t] 60 (0, 0)) := by rw [hBr]; exact heap_alloc_last _ _
    have hsz0 := (Array.getElem?_eq_some_iff.1 hbox).1
    have HBB : Hid (Below w.heap.size w (wr.alloc (.cells #[.int .i64 (ya : Int), .int .i64 (yb : Int), .int .i64 yr.k, .int .i64 yr.o, .int .i64 yr.s, .int .i64 yr.r, .int .i64 yr.e, .int .i64 yr.t] 60)) ∧ (wr.alloc (.cells #[.int .i64 (ya : Int), .int .i64 (yb : Int), .int .i64 yr.k, .int .i64 yr.o, .int .i64 yr.s, .int .i64 yr.r, .int .i64 yr.e, .int .i64 yr.t] 60)).heap[w.heap.size]? = some (.cells #[.int .i64 (ga : Int), .int .i64 (gb : Int), .int .i64 gr.k, .int .i64 gr.o, .int .i64 gr.s, .int .i64 gr.r, .int .i64 gr.e, .int .i64 gr.t] 60 (0, 0))) := hide ⟨hbel.trans (hba.mono hbel.size), by rw [hba.block _ hsz0]; exact hbox⟩
    have HOW : Hid ((wr.alloc (.cells #[.int .i64 (ya : Int), .int .i64 (yb : Int), .int .i64 yr.k, .int .i64 yr.o, .int .i64 yr.s, .int .i64 yr.r, .int .i64 yr.e, .int .i64 yr.t] 60)).ownsRow (w.heap.size + 1) 60 8 (.slice a2 n c2) n (encW acc)) := hide (ownsRow_keep hown (fun b hb' => hba.block b (ownsRow_lt hown hb')))
    have HBr : Hid (∀ b, (Value.slice a2 n c2).ownBlock = some b → b < Br) := hide (fun b hb' => by rw [hBr]; exact ownsRow_lt hown hb')
    have HBg : Hid (w.heap.size < Br) := hide (by rw [hBr]; exact hsz0)
    clear hRr hacc hbel hbox hown hac hba hy KK hsz0
    go_upto_region 6 with fail
    rw [← hBr]
    generalize wr.alloc (.cells #[.int .i64 (ya : Int), .int .i64 (yb : Int), .int .i64 yr.k, .int .i64 yr.o, .int .i64 yr.s, .int .i64 yr.r, .int .i64 yr.e, .int .i64 yr.t] 60) = W1 at *
    clear hBr r0 r1 r2 r3 r4 r5 r6 r7 c16
    have y0 : W1.cell? ⟨Br, 0, none⟩ = some (.int .i64 (ya : Int)) := by rw [cell_of_row _ _ _ _ _ _ hyb]; rfl
    have y1 : W1.cell? ⟨Br, 1, none⟩ = some (.int .i64 (yb : Int)) := by rw [cell_of_row _ _ _ _ _ _ hyb]; rfl
    have y2 : W1.cell? ⟨Br, 2, none⟩ = some (.int .i64 yr.k) := by rw [cell_of_row _ _ _ _ _ _ hyb]; rfl
    have y3 : W1.cell? ⟨Br, 3, none⟩ = some (.int .i64 yr.o) := by rw [cell_of_row _ _ _ _ _ _ hyb]; rfl
    have y4 : W1.cell? ⟨Br, 4, none⟩ = some (.int .i64 yr.s) := by rw [cell_of_row _ _ _ _ _ _ hyb]; rfl
    have y5 : W1.cell? ⟨Br, 5, none⟩ = some (.int .i64 yr.r) := by rw [cell_of_row _ _ _ _ _ _ hyb]; rfl
    have y6 : W1.cell? ⟨Br, 6, none⟩ = some (.int .i64 yr.e) := by rw [cell_of_row _ _ _ _ _ _ hyb]; rfl
    have y7 : W1.cell? ⟨Br, 7, none⟩ = some (.int .i64 yr.t) := by rw [cell_of_row _ _ _ _ _ _ hyb]; rfl
    have hgb := HBB.out.2
    have g0 : W1.cell? ⟨w.heap.size, 0, none⟩ = some (.int .i64 (ga : Int)) := by rw [cell_of_row _ _ _ _ _ _ hgb]; rfl
    have g1 : W1.cell? ⟨w.heap.size, 1, none⟩ = some (.int .i64 (gb : Int)) := by rw [cell_of_row _ _ _ _ _ _ hgb]; rfl
    have g6 : W1.cell? ⟨w.heap.size, 6, none⟩ = some (.int .i64 gr.e) := by rw [cell_of_row _ _ _ _ _ _ hgb]; rfl
    have g7 : W1.cell? ⟨w.heap.size, 7, none⟩ = some (.int .i64 gr.t) := by rw [cell_of_row _ _ _ _ _ _ hgb]; rfl
    have HYb := hide hyb
    clear hgb hyb
    by_cases t1 : yr.e = (ga : Int)
    · have t1' : (yr.e == (ga : Int)) = true := by simp [t1]
      by_cases t2 : yr.t = (gb : Int)
      · have t2' : (yr.t == (gb : Int)) = true := by simp [t2]
        have HRp : Hid (rp ga gb gr yr = { yr with e := gr.e, t := gr.t }) := hide (by unfold rp; rw [if_pos ⟨t1, t2⟩]; rfl)
        have fz := fun j => frozen_of_row W1 Br j _ _ HYb.out
        have fz6 := fz 6
        have fz7 := fz 7
        have HYn : Hid (((W1.setCell ⟨Br, 6, none⟩ (.int .i64 gr.e)).setCell ⟨Br, 7, none⟩ (.int .i64 gr.t)).heap[Br]? = some (.cells #[.int .i64 (ya : Int), .int .i64 (yb : Int), .int .i64 yr.k, .int .i64 yr.o, .int .i64 yr.s, .int .i64 yr.r, .int .i64 gr.e, .int .i64 gr.t] 60 (0, 0))) := hide (by rw [heap_setCell_same _ _ _ _ _ _ (heap_setCell_same _ _ _ _ _ _ HYb.out)]; rfl)
        have HBB' : Hid (Below w.heap.size w ((W1.setCell ⟨Br, 6, none⟩ (.int .i64 gr.e)).setCell ⟨Br, 7, none⟩ (.int .i64 gr.t)) ∧ ((W1.setCell ⟨Br, 6, none⟩ (.int .i64 gr.e)).setCell ⟨Br, 7, none⟩ (.int .i64 gr.t)).heap[w.heap.size]? = some (.cells #[.int .i64 (ga : Int), .int .i64 (gb : Int), .int .i64 gr.k, .int .i64 gr.o, .int .i64 gr.s, .int .i64 gr.r, .int .i64 gr.e, .int .i64 gr.t] 60 (0, 0))) := by
          refine hide ⟨(HBB.out.1.setCell (p := ⟨Br, 6, none⟩) (Nat.le_of_lt HBg.out) _).setCell (p := ⟨Br, 7, none⟩) (Nat.le_of_lt HBg.out) _, ?_⟩
          rw [heap_setCell_other _ _ _ _ (by have := HBg.out; exact Nat.ne_of_lt this), heap_setCell_other _ _ _ _ (by have := HBg.out; exact Nat.ne_of_lt this)]; exact HBB.out.2
        have HOW' : Hid (((W1.setCell ⟨Br, 6, none⟩ (.int .i64 gr.e)).setCell ⟨Br, 7, none⟩ (.int .i64 gr.t)).ownsRow (w.heap.size + 1) 60 8 (.slice a2 n c2) n (encW acc)) := hide (ownsRow_keep HOW.out (fun b hb' => by
          have := HBr.out b hb'
          rw [heap_setCell_other _ _ _ _ (Nat.ne_of_lt this), heap_setCell_other _ _ _ _ (Nat.ne_of_lt this)]))
        clear t1 t2 fz HOW HBB HYb
        go_upto_region 8 with fail
        generalize (W1.setCell ⟨Br, 6, none⟩ (.int .i64 gr.e)).setCell ⟨Br, 7, none⟩ (.int .i64 gr.t) = W2 at *
        clear y0 y1 y2 y3 y4 y5 y6 y7 g0 g1 g6 g7 fz6 fz7
        have HBB := HBB'
        have HOW := HOW'
        clear HBB' HOW'
        have y0 : W2.cell? ⟨Br, 0, none⟩ = some (.int .i64 (ya : Int)) := by rw [cell_of_row _ _ _ _ _ _ HYn.out]; rfl
        have y1 : W2.cell? ⟨Br, 1, none⟩ = some (.int .i64 (yb : Int)) := by rw [cell_of_row _ _ _ _ _ _ HYn.out]; rfl
        have y2 : W2.cell? ⟨Br, 2, none⟩ = some (.int .i64 yr.k) := by rw [cell_of_row _ _ _ _ _ _ HYn.out]; rfl
        have y3 : W2.cell? ⟨Br, 3, none⟩ = some (.int .i64 yr.o) := by rw [cell_of_row _ _ _ _ _ _ HYn.out]; rfl
        have y4 : W2.cell? ⟨Br, 4, none⟩ = some (.int .i64 yr.s) := by rw [cell_of_row _ _ _ _ _ _ HYn.out]; rfl
        have y5 : W2.cell? ⟨Br, 5, none⟩ = some (.int .i64 yr.r) := by rw [cell_of_row _ _ _ _ _ _ HYn.out]; rfl
        have y6 : W2.cell? ⟨Br, 6, none⟩ = some (.int .i64 gr.e) := by rw [cell_of_row _ _ _ _ _ _ HYn.out]; rfl
        have y7 : W2.cell? ⟨Br, 7, none⟩ = some (.int .i64 gr.t) := by rw [cell_of_row _ _ _ _ _ _ HYn.out]; rfl
        by_cases hji : k = i
        · have hq : ((k : Int) == (i : Int)) = true := by simp [hji]
          have HEnd : Hid (Below w.heap.size w W2 ∧ W2.heap[w.heap.size]? = some (.cells #[.int .i64 (ga : Int), .int .i64 (gb : Int), .int .i64 gr.k, .int .i64 gr.o, .int .i64 gr.s, .int .i64 gr.r, .int .i64 gr.e, .int .i64 gr.t] 60 (0, 0)) ∧ W2.ownsRow (w.heap.size + 1) 60 8 (.slice a2 n c2) n (encW acc) ∧ acc = tkT (rp ga gb gr) K i (k + 1)) := hide ⟨HBB.out.1, HBB.out.2, HOW.out, by rw [HAc.out, ← hji]; exact tkT_at _ _ _⟩
          clear hji HOW HBB y0 y1 y2 y3 y4 y5 y6 y7
          go_wp2
          go_roundw
          case rel => first | exact ⟨k + 1, by omega, by go_num, n, a2, c2, rfl, by omega, hide ⟨acc, HLa.out, HEnd.out⟩⟩ | ((repeat apply Exists.intro); refine ⟨?_, rfl⟩; exact ⟨k + 1, by omega, by go_num, n, a2, c2, rfl, by omega, hide ⟨acc, HLa.out, HEnd.out⟩⟩)
          case measure => simp [intOf]; omega
        · have hq : ((k : Int) == (i : Int)) = false := by rw [beq_eq_false_iff_ne]; omega
          have HSz : Hid (w.heap.size + 1 ≤ W2.heap.size) := hide (by have := (Array.getElem?_eq_some_iff.1 HBB.out.2).1; omega)
          have Hji := hide hji
          clear hji
          go_upto_region 4 with (at_builtin; refine wpList_append_own _ rfl _ _ 41 rfl (w.heap.size + 1) 60 i8 (.agg #[.int .i64 0, .int .i64 0, .int .i64 0, .int .i64 0, .int .i64 0, .int .i64 0, .int .i64 0, .int .i64 0]) 8 64 Tryz.underlying41 hi hz hs hb rfl (by decide) _ n (encW acc) rfl (HOW.out.alloc _) ⟨W2.heap.size, 0, none⟩ 1 1 [.int .i64 (ya : Int), .int .i64 (yb : Int), .int .i64 yr.k, .int .i64 yr.o, .int .i64 yr.s, .int .i64 yr.r, .int .i64 gr.e, .int .i64 gr.t] rfl rfl ?pa1 ?pa2 ?pa3 ?pa4 ?pa5 ?_)
          case pa1 => exact cell_list_new _ _ [.int .i64 (ya : Int), .int .i64 (yb : Int), .int .i64 yr.k, .int .i64 yr.o, .int .i64 yr.s, .int .i64 yr.r, .int .i64 gr.e, .int .i64 gr.t]
          case pa2 => simp [Value.oneCell']
          case pa3 => unfold maxLen; omega
          case pa4 => omega
          case pa5 => have := HSz.out; simp; omega
          intro v2 w2 hown2 hg2 _
          obtain ⟨hbel2, hk2⟩ := grew_keep HBB.out.1 HOW.out (by omega) hg2
          obtain ⟨a3, c3, rfl⟩ := own_shape hown2
          have HEnd : Hid (Below w.heap.size w w2 ∧ w2.heap[w.heap.size]? = some (.cells #[.int .i64 (ga : Int), .int .i64 (gb : Int), .int .i64 gr.k, .int .i64 gr.o, .int .i64 gr.s, .int .i64 gr.r, .int .i64 gr.e, .int .i64 gr.t] 60 (0, 0)) ∧ w2.ownsRow (w.heap.size + 1) 60 8 (.slice a3 (n + 1) c3) (n + 1) (encW (acc ++ [((ya, yb), rp ga gb gr yr)])) ∧ acc ++ [((ya, yb), rp ga gb gr yr)] = tkT (rp ga gb gr) K i (k + 1)) := hide ⟨hbel2, by rw [hk2 _ (by omega) (by have := HSz.out; omega)]; exact HBB.out.2, by rw [encW_app]; rw [HRp.out]; exact hown2, by rw [HAc.out, tkT_next _ Hji.out HY.out]⟩
          clear hown2 hg2 hbel2 hk2 HOW HBB y0 y1 y2 y3 y4 y5 y6 y7
          go_wp2
          go_roundw
          case rel => first | exact ⟨k + 1, by omega, by go_num, n + 1, a3, c3, rfl, by omega, hide ⟨acc ++ [((ya, yb), rp ga gb gr yr)], by rw [List.length_append, HLa.out]; rfl, HEnd.out⟩⟩ | ((repeat apply Exists.intro); refine ⟨?_, rfl⟩; exact ⟨k + 1, by omega, by go_num, n + 1, a3, c3, rfl, by omega, hide ⟨acc ++ [((ya, yb), rp ga gb gr yr)], by rw [List.length_append, HLa.out]; rfl, HEnd.out⟩⟩)
          case measure => simp [intOf]; omega
      · have t2' : (yr.t == (gb : Int)) = false := by rw [beq_eq_false_iff_ne]; exact t2
        have HRp : Hid (rp ga gb gr yr = yr) := hide (by unfold rp; rw [if_neg (fun h => t2 h.2)])
        clear t1 t2
        by_cases hji : k = i
        · have hq : ((k : Int) == (i : Int)) = true := by simp [hji]
          have HEnd : Hid (Below w.heap.size w W1 ∧ W1.heap[w.heap.size]? = some (.cells #[.int .i64 (ga : Int), .int .i64 (gb : Int), .int .i64 gr.k, .int .i64 gr.o, .int .i64 gr.s, .int .i64 gr.r, .int .i64 gr.e, .int .i64 gr.t] 60 (0, 0)) ∧ W1.ownsRow (w.heap.size + 1) 60 8 (.slice a2 n c2) n (encW acc) ∧ acc = tkT (rp ga gb gr) K i (k + 1)) := hide ⟨HBB.out.1, HBB.out.2, HOW.out, by rw [HAc.out, ← hji]; exact tkT_at _ _ _⟩
          clear hji HOW HBB 
          go_wp2
          go_roundw
          case rel => first | exact ⟨k + 1, by omega, by go_num, n, a2, c2, rfl, by omega, hide ⟨acc, HLa.out, HEnd.out⟩⟩ | ((repeat apply Exists.intro); refine ⟨?_, rfl⟩; exact ⟨k + 1, by omega, by go_num, n, a2, c2, rfl, by omega, hide ⟨acc, HLa.out, HEnd.out⟩⟩)
          case measure => simp [intOf]; omega
        · have hq : ((k : Int) == (i : Int)) = false := by rw [beq_eq_false_iff_ne]; omega
          have HSz : Hid (w.heap.size + 1 ≤ W1.heap.size) := hide (by have := (Array.getElem?_eq_some_iff.1 HBB.out.2).1; omega)
          have Hji := hide hji
          clear hji
          go_upto_region 4 with (at_builtin; refine wpList_append_own _ rfl _ _ 41 rfl (w.heap.size + 1) 60 i8 (.agg #[.int .i64 0, .int .i64 0, .int .i64 0, .int .i64 0, .int .i64 0, .int .i64 0, .int .i64 0, .int .i64 0]) 8 64 Tryz.underlying41 hi hz hs hb rfl (by decide) _ n (encW acc) rfl (HOW.out.alloc _) ⟨W1.heap.size, 0, none⟩ 1 1 [.int .i64 (ya : Int), .int .i64 (yb : Int), .int .i64 yr.k, .int .i64 yr.o, .int .i64 yr.s, .int .i64 yr.r, .int .i64 yr.e, .int .i64 yr.t] rfl rfl ?pb1 ?pb2 ?pb3 ?pb4 ?pb5 ?_)
          case pb1 => exact cell_list_new _ _ [.int .i64 (ya : Int), .int .i64 (yb : Int), .int .i64 yr.k, .int .i64 yr.o, .int .i64 yr.s, .int .i64 yr.r, .int .i64 yr.e, .int .i64 yr.t]
          case pb2 => simp [Value.oneCell']
          case pb3 => unfold maxLen; omega
          case pb4 => omega
          case pb5 => have := HSz.out; simp; omega
          intro v2 w2 hown2 hg2 _
          obtain ⟨hbel2, hk2⟩ := grew_keep HBB.out.1 HOW.out (by omega) hg2
          obtain ⟨a3, c3, rfl⟩ := own_shape hown2
          have HEnd : Hid (Below w.heap.size w w2 ∧ w2.heap[w.heap.size]? = some (.cells #[.int .i64 (ga : Int), .int .i64 (gb : Int), .int .i64 gr.k, .int .i64 gr.o, .int .i64 gr.s, .int .i64 gr.r, .int .i64 gr.e, .int .i64 gr.t] 60 (0, 0)) ∧ w2.ownsRow (w.heap.size + 1) 60 8 (.slice a3 (n + 1) c3) (n + 1) (encW (acc ++ [((ya, yb), yr)])) ∧ acc ++ [((ya, yb), yr)] = tkT (rp ga gb gr) K i (k + 1)) := hide ⟨hbel2, by rw [hk2 _ (by omega) (by have := HSz.out; omega)]; exact HBB.out.2, by rw [encW_app]; exact hown2, by rw [HAc.out, tkT_next _ Hji.out HY.out]; rw [HRp.out]⟩
          clear hown2 hg2 hbel2 hk2 HOW HBB y0 y1 y2 y3 y4 y5 y6 y7 g0 g1 g6 g7
          go_wp2
          go_roundw
          case rel => first | exact ⟨k + 1, by omega, by go_num, n + 1, a3, c3, rfl, by omega, hide ⟨acc ++ [((ya, yb), yr)], by rw [List.length_append, HLa.out]; rfl, HEnd.out⟩⟩ | ((repeat apply Exists.intro); refine ⟨?_, rfl⟩; exact ⟨k + 1, by omega, by go_num, n + 1, a3, c3, rfl, by omega, hide ⟨acc ++ [((ya, yb), yr)], by rw [List.length_append, HLa.out]; rfl, HEnd.out⟩⟩)
          case measure => simp [intOf]; omega
    · have t1' : (yr.e == (ga : Int)) = false := by rw [beq_eq_false_iff_ne]; exact t1
      have HRp : Hid (rp ga gb gr yr = yr) := hide (by unfold rp; rw [if_neg (fun h => t1 h.1)])
      clear t1
      by_cases hji : k = i
      · have hq : ((k : Int) == (i : Int)) = true := by simp [hji]
        have HEnd : Hid (Below w.heap.size w W1 ∧ W1.heap[w.heap.size]? = some (.cells #[.int .i64 (ga : Int), .int .i64 (gb : Int), .int .i64 gr.k, .int .i64 gr.o, .int .i64 gr.s, .int .i64 gr.r, .int .i64 gr.e, .int .i64 gr.t] 60 (0, 0)) ∧ W1.ownsRow (w.heap.size + 1) 60 8 (.slice a2 n c2) n (encW acc) ∧ acc = tkT (rp ga gb gr) K i (k + 1)) := hide ⟨HBB.out.1, HBB.out.2, HOW.out, by rw [HAc.out, ← hji]; exact tkT_at _ _ _⟩
        clear hji HOW HBB 
        go_wp2
        go_roundw
        case rel => first | exact ⟨k + 1, by omega, by go_num, n, a2, c2, rfl, by omega, hide ⟨acc, HLa.out, HEnd.out⟩⟩ | ((repeat apply Exists.intro); refine ⟨?_, rfl⟩; exact ⟨k + 1, by omega, by go_num, n, a2, c2, rfl, by omega, hide ⟨acc, HLa.out, HEnd.out⟩⟩)
        case measure => simp [intOf]; omega
      · have hq : ((k : Int) == (i : Int)) = false := by rw [beq_eq_false_iff_ne]; omega
        have HSz : Hid (w.heap.size + 1 ≤ W1.heap.size) := hide (by have := (Array.getElem?_eq_some_iff.1 HBB.out.2).1; omega)
        have Hji := hide hji
        clear hji
        go_upto_region 4 with (at_builtin; refine wpList_append_own _ rfl _ _ 41 rfl (w.heap.size + 1) 60 i8 (.agg #[.int .i64 0, .int .i64 0, .int .i64 0, .int .i64 0, .int .i64 0, .int .i64 0, .int .i64 0, .int .i64 0]) 8 64 Tryz.underlying41 hi hz hs hb rfl (by decide) _ n (encW acc) rfl (HOW.out.alloc _) ⟨W1.heap.size, 0, none⟩ 1 1 [.int .i64 (ya : Int), .int .i64 (yb : Int), .int .i64 yr.k, .int .i64 yr.o, .int .i64 yr.s, .int .i64 yr.r, .int .i64 yr.e, .int .i64 yr.t] rfl rfl ?pc1 ?pc2 ?pc3 ?pc4 ?pc5 ?_)
        case pc1 => exact cell_list_new _ _ [.int .i64 (ya : Int), .int .i64 (yb : Int), .int .i64 yr.k, .int .i64 yr.o, .int .i64 yr.s, .int .i64 yr.r, .int .i64 yr.e, .int .i64 yr.t]
        case pc2 => simp [Value.oneCell']
        case pc3 => unfold maxLen; omega
        case pc4 => omega
        case pc5 => have := HSz.out; simp; omega
        intro v2 w2 hown2 hg2 _
        obtain ⟨hbel2, hk2⟩ := grew_keep HBB.out.1 HOW.out (by omega) hg2
        obtain ⟨a3, c3, rfl⟩ := own_shape hown2
        have HEnd : Hid (Below w.heap.size w w2 ∧ w2.heap[w.heap.size]? = some (.cells #[.int .i64 (ga : Int), .int .i64 (gb : Int), .int .i64 gr.k, .int .i64 gr.o, .int .i64 gr.s, .int .i64 gr.r, .int .i64 gr.e, .int .i64 gr.t] 60 (0, 0)) ∧ w2.ownsRow (w.heap.size + 1) 60 8 (.slice a3 (n + 1) c3) (n + 1) (encW (acc ++ [((ya, yb), yr)])) ∧ acc ++ [((ya, yb), yr)] = tkT (rp ga gb gr) K i (k + 1)) := hide ⟨hbel2, by rw [hk2 _ (by omega) (by have := HSz.out; omega)]; exact HBB.out.2, by rw [encW_app]; exact hown2, by rw [HAc.out, tkT_next _ Hji.out HY.out]; rw [HRp.out]⟩
        clear hown2 hg2 hbel2 hk2 HOW HBB y0 y1 y2 y3 y4 y5 y6 y7 g0 g1 g6 g7
        go_wp2
        go_roundw
        case rel => first | exact ⟨k + 1, by omega, by go_num, n + 1, a3, c3, rfl, by omega, hide ⟨acc ++ [((ya, yb), yr)], by rw [List.length_append, HLa.out]; rfl, HEnd.out⟩⟩ | ((repeat apply Exists.intro); refine ⟨?_, rfl⟩; exact ⟨k + 1, by omega, by go_num, n + 1, a3, c3, rfl, by omega, hide ⟨acc ++ [((ya, yb), yr)], by rw [List.length_append, HLa.out]; rfl, HEnd.out⟩⟩)
        case measure => simp [intOf]; omega
  · obtain rfl : k = L := by omega
    have hd : decide ((k : Int) < (k : Int)) = false := by simp
    have f16 := hRr.frz 16
    have HEnd : Hid (∃ v' F', RbAt (wr.setCell ⟨R, 16, none⟩ (.slice a2 n c2)) R v' bk' (tkT (rp ga gb gr) K i K.length) ∧ (∀ b, F' b ↔ b = R ∨ v'.ownBlock = some b) ∧ Ext F w F' (wr.setCell ⟨R, 16, none⟩ (.slice a2 n c2))) := by
      have ho5 : wr.ownsRow w.heap.size 60 8 (.slice a2 n c2) (tkT (rp ga gb gr) K i K.length).length (encW (tkT (rp ga gb gr) K i K.length)) := by
        rw [HL.out, ← hac, hacc]
        obtain ⟨q1, q2 | ⟨gg, cp, cur, q2, q3, q4⟩⟩ := hown
        · exact ⟨q1, .inl q2⟩
        · exact ⟨q1, .inr ⟨gg, cp, cur, q2, by omega, q4⟩⟩
      refine hide ⟨.slice a2 n c2, fun b => b = R ∨ (Value.slice a2 n c2).ownBlock = some b, (hRr.setRows (w := w) (flg_shape HD.out.1) ho5 Hlt.out), fun b => Iff.rfl, (Mod.of_below hbel).setCell (.inl ((HE.out R).2 (.inl rfl))) _, ?_⟩
      rintro b (e | e)
      · exact .inl ((HE.out b).2 (.inl e))
      · exact .inr (World.ownsRow.lt ho5 b e).1
    clear hRr hacc hbel hbox hown hac KK
    go_wp2
    go_end0
    exact ⟨rfl, HEnd.out⟩
end
end Go.Proofs.YteacmcdmdeckmaaGreat

namespace Go.Proofs.YteacmcdmdeckmaaGreat
open Go.RowKit

section
variable {w : World} {R : Nat} {bk bk' : List (Option Lst)} {F : Nat → Prop}
theorem takeA_any {v : Value} {K : List Rw} (h : RbAt w R v bk K) (ha : Ag bk K) (he : ∀ b, F b ↔ b = R ∨ v.ownBlock = some b) (hp : P8 bk) (i ga gb : Nat) (gr : Rc) (hgi : K[i]? = some ((ga, gb), gr)) (hdr : DropR bk ga gb gr bk') :
    Calls Tryz.prog 74 #[tp R, .int .i64 (i : Int)] w fun x w' => x = .returned (.tuple #[]) ∧ ∃ F', RbA R bk' w' F' ∧ Ext F w F' w' := by
  refine (takeD_any h ha he hp i ga gb gr hgi hdr).mono ?_
  rintro x w' ⟨rfl, v', F', h1, h2, h3⟩
  exact ⟨rfl, F', ⟨v', _, h1, ha.take hgi hdr, h2⟩, h3⟩
set_option maxHeartbeats 3200000 in
theorem dropD_none (h : RbA R bk w F) (hw : Wb bk) (e s : Int) (hn : atB bk e s = none) : Calls Tryz.prog 58 #[tp R, .int .i64 e, .int .i64 s] w fun x w' => x = .returned (.tuple #[Rc.zero.cap, .int .i64 (lcode bk e s)]) ∧ Below w.heap.size w w' := by
  have hb0 := (Below.refl w.heap.size w).alloc (Nat.le_refl _) (.cells #[.int .i64 0, .int .i64 0, .int .i64 0, .int .i64 0] 28)
  have h1 := h.below hb0
  obtain ⟨v, K, hr1, ha, he⟩ := h1
  have HL := hide (lookR_any hr1 ha hw e s)
  have hZ : (w.alloc (.cells #[.int .i64 0, .int .i64 0, .int .i64 0, .int .i64 0] 28)).heap[w.heap.size]? = some (.cells #[.int .i64 0, .int .i64 0, .int .i64 0, .int .i64 0] 28 (0, 0)) := heap_alloc_last _ _
  have HB0 := hide hb0
  clear h hr1 hb0 ha he
  go_enter Tryz.func58, Tryz.ntmps58
  go_wp2_with fail
  generalize hgw : w.alloc (.cells #[.int .i64 0, .int .i64 0, .int .i64 0, .int .i64 0] 28) = w0 at *
  clear hgw
  refine HL.out.mono ?_
  rintro e1 w1 ⟨hb1, ⟨i, a, b, r, rfl, hi, -, -, hr, hc⟩ | ⟨rfl, -, hc⟩⟩
  · rw [hn] at hr; cases hr
  · have hcb : (lcode bk e s == 0) = false := by rw [beq_eq_false_iff_ne]; omega
    have hlt := (Array.getElem?_eq_some_iff.1 hZ).1
    have hZ1 := (hb1.block w.heap.size hlt).trans hZ
    have HB1 := hide (HB0.out.trans (hb1.mono HB0.out.size))
    obtain ⟨f0, f1, f2, f3⟩ := blk4f hZ1
    obtain ⟨d0, d1, d2, d3⟩ := cap4_of hZ1
    have HS := hide (fun a b c d => set4 hZ1 a b c d)
    obtain ⟨cc, hcc⟩ : ∃ cc, lcode bk e s = cc := ⟨_, rfl⟩
    rw [hcc] at hcb ⊢
    have Hcc := hide hcc
    clear hb1 HL hZ hZ1 hn hc HB0 hcc
    go_wp2
    refine bodyPost_ret (results_row2 rfl _ _ w.heap.size 28 #[.int .i64 0, .int .i64 0, .int .i64 0, .int .i64 0] (0, 0) _ rfl (HS.out _ _ _ _) Tryz.underlying28 rfl (by kernel_rfl)) rfl ?_
    exact ⟨by rw [Hcc.out]; rfl, (((HB1.out.setCell (p := ⟨w.heap.size, 0, none⟩) (Nat.le_refl _) _).setCell (p := ⟨w.heap.size, 1, none⟩) (Nat.le_refl _) _).setCell (p := ⟨w.heap.size, 2, none⟩) (Nat.le_refl _) _).setCell (p := ⟨w.heap.size, 3, none⟩) (Nat.le_refl _) _⟩
set_option maxHeartbeats 3200000 in
theorem dropD_some (h : RbA R bk w F) (hw : Wb bk) (i j : Nat) (r : Rc) (hr : atB bk (i : Int) (j : Int) = some r) (hdr : DropR bk i j r bk') : Calls Tryz.prog 58 #[tp R, .int .i64 (i : Int), .int .i64 (j : Int)] w fun x w' => x = .returned (.tuple #[r.cap, .int .i64 0]) ∧ ∃ F', RbA R bk' w' F' ∧ Ext F w F' w' := by
  have hb0 := (Below.refl w.heap.size w).alloc (Nat.le_refl _) (.cells #[.int .i64 0, .int .i64 0, .int .i64 0, .int .i64 0] 28)
  have h1 := h.below hb0
  have HF : Hid (∀ b, F b → b < w.heap.size) := hide (fun b hb => (good_rb R bk).lt h b hb)
  obtain ⟨v, K, hr1, ha, he⟩ := h1
  have HL := hide (lookR_any hr1 ha hw (i : Int) (j : Int))
  have hZ : (w.alloc (.cells #[.int .i64 0, .int .i64 0, .int .i64 0, .int .i64 0] 28)).heap[w.heap.size]? = some (.cells #[.int .i64 0, .int .i64 0, .int .i64 0, .int .i64 0] 28 (0, 0)) := heap_alloc_last _ _
  have HB0 := hide hb0
  have HR1 := hide hr1
  have HA := hide ha
  have HE := hide he
  have HD := hide hdr
  have HP := hide hw.p8
  clear h hr1 hb0 ha he hdr
  go_enter Tryz.func58, Tryz.ntmps58
  go_wp2_with fail
  generalize hgw : w.alloc (.cells #[.int .i64 0, .int .i64 0, .int .i64 0, .int .i64 0] 28) = w0 at *
  clear hgw
  refine HL.out.mono ?_
  rintro e1 w1 ⟨hb1, ⟨ii, a, b, r', rfl, hi, e1, e2, hr', hc⟩ | ⟨rfl, hn, hc⟩⟩
  · obtain rfl : i = a := by omega
    obtain rfl : j = b := by omega
    rw [hr] at hr'
    cases hr'
    have hlt := (Array.getElem?_eq_some_iff.1 hZ).1
    have hZ1 := (hb1.block w.heap.size hlt).trans hZ
    have hb1' := HB0.out.trans (hb1.mono HB0.out.size)
    have hR1 := HR1.out.below hb1
    have c16 := hR1.rowc
    obtain ⟨g, c, hv, hrow⟩ := hR1.at hi
    obtain ⟨L, hL⟩ : ∃ L, K.length = L := ⟨_, rfl⟩
    have hil : (ii : Int) < (L : Int) := by have := (List.getElem?_eq_some_iff.1 hi).1; omega
    obtain ⟨-, -, r2, r3, r4, r5, -, -⟩ := hrow
    simp only at r2 r3 r4 r5
    have c16' : w1.cell? ⟨R, 16, none⟩ = some (.slice (some ⟨g, 0, none⟩) L c) := by rw [c16, hv, hL]
    have hba := (Below.refl w1.heap.size w1).alloc (Nat.le_refl _) (.cells #[.int .i64 r.k, .int .i64 r.o, .int .i64 r.s, .int .i64 r.r] 28)
    have hZ2 := (hba.block w.heap.size (Array.getElem?_eq_some_iff.1 hZ1).1).trans hZ1
    have hC2 : (w1.alloc (.cells #[.int .i64 r.k, .int .i64 r.o, .int .i64 r.s, .int .i64 r.r] 28)).heap[w1.heap.size]? = some (.cells #[.int .i64 r.k, .int .i64 r.o, .int .i64 r.s, .int .i64 r.r] 28 (0, 0)) := heap_alloc_last _ _
    have HT := hide (takeA_any (hR1.below hba) HA.out HE.out HP.out ii i j r hi HD.out)
    have HX2 : Hid (Ext F w F (w1.alloc (.cells #[.int .i64 r.k, .int .i64 r.o, .int .i64 r.s, .int .i64 r.r] 28))) := hide ((Ext.of_below hb1').trans (Ext.of_below hba))
    have HZC := hide (And.intro hZ2 hC2)
    have hnw : w.heap.size < w1.heap.size := (Array.getElem?_eq_some_iff.1 hZ1).1
    have Hnw := hide hnw
    obtain ⟨C1, hC1⟩ : ∃ C, C = w1.heap.size := ⟨_, rfl⟩
    have HC1 := hide hC1
    clear hb1 HL hZ hZ1 hR1 hi e1 e2 hc hL HR1 HB0 hb1' hba hZ2 hC2 hv c16 hnw hlt
    go_upto_region 5 with fail
    rw [← hC1]
    generalize w1.alloc (.cells #[.int .i64 r.k, .int .i64 r.o, .int .i64 r.s, .int .i64 r.r] 28) = w2 at *
    clear hC1 c16' r2 r3 r4 r5
    go_wp2_with fail
    refine HT.out.mono ?_
    rintro e1 w3 ⟨rfl, F3, hr3, hx3⟩
    have hZ3 := hx3.keepB HZC.out.1 (fun hf => by have := HF.out _ hf; omega)
    have hC3 := hx3.keepB HZC.out.2 (fun hf => by have := HF.out _ hf; have := Hnw.out; omega)
    rw [← HC1.out] at hC3
    obtain ⟨f0, f1, f2, f3⟩ := blk4f hZ3
    obtain ⟨d0, d1, d2, d3⟩ := cap4_of hZ3
    obtain ⟨p0, p1, p2, p3⟩ := cap4_of hC3
    have HS := hide (fun a b c d => set4 hZ3 a b c d)
    have HEnd : Hid (∀ W, (∀ b, b ≠ w.heap.size → W.heap[b]? = w3.heap[b]?) → W.heap.size = w3.heap.size → W.os = w3.os → W.tape = w3.tape → W.output = w3.output → RbA R bk' W F3 ∧ Ext F w F3 W) := by
      refine hide (fun W h1 h2 h3 h4 h5 => ?_)
      have hx := HX2.out.trans hx3
      have hF3 : ∀ b, F3 b → b ≠ w.heap.size := fun b hb e => by
        subst e
        have := hx3.new w.heap.size hb
        rcases this with h6 | h6
        · have := HF.out _ h6; omega
        · have h7 := (Array.getElem?_eq_some_iff.1 HZC.out.1).1; omega
      refine ⟨(good_rb R bk').keep hr3 (by omega) (fun b hb => h1 b (hF3 b hb)), ⟨h3.trans hx.mod.os, h4.trans hx.mod.tape, h5.trans hx.mod.output, by have := hx.mod.size; omega, fun b hb hf => by rw [h1 b (by omega)]; exact hx.mod.block b hb hf⟩, hx.new⟩
    clear hr3 hx3 hZ3 hC3 HT HZC
    go_wp2
    refine bodyPost_ret (results_row2 rfl _ _ w.heap.size 28 #[.int .i64 r.k, .int .i64 r.o, .int .i64 r.s, .int .i64 r.r] (0, 0) _ rfl (HS.out _ _ _ _) Tryz.underlying28 rfl (by kernel_rfl)) rfl ?_
    refine ⟨rfl, F3, HEnd.out _ (fun b hb => ?_) (by simp [World.setCell]) rfl rfl rfl⟩
    rw [heap_setCell_other _ _ _ _ hb, heap_setCell_other _ _ _ _ hb, heap_setCell_other _ _ _ _ hb, heap_setCell_other _ _ _ _ hb]
  · rw [hr] at hn; cases hn
end
end Go.Proofs.YteacmcdmdeckmaaGreat

namespace Go.Proofs.YteacmcdmdeckmaaGreat
open Go.RowKit

/-- a sorted list is told by what is in it -/
theorem uniq : ∀ (A B : List Rw), A.Pairwise (fun a b => PLt a.1 b.1) → B.Pairwise (fun a b => PLt a.1 b.1) → (∀ x, x ∈ A ↔ x ∈ B) → A = B
  | [], [], _, _, _ => rfl
  | [], b :: B, _, _, h => by have := (h b).2 (List.mem_cons_self ..); cases this
  | a :: A, [], _, _, h => by have := (h a).1 (List.mem_cons_self ..); cases this
  | a :: A, b :: B, hA, hB, h => by
    obtain ⟨a1, a2⟩ := List.pairwise_cons.1 hA
    obtain ⟨b1, b2⟩ := List.pairwise_cons.1 hB
    have hab : a = b := by
      rcases List.mem_cons.1 ((h a).1 (List.mem_cons_self ..)) with e | e
      · exact e
      · rcases List.mem_cons.1 ((h b).2 (List.mem_cons_self ..)) with e2 | e2
        · exact e2.symm
        · exact absurd (plt_trans (b1 a e) (a1 b e2)) (plt_irr _)
    subst hab
    congr 1
    refine uniq A B a2 b2 (fun x => ⟨fun hx => ?_, fun hx => ?_⟩)
    · rcases List.mem_cons.1 ((h x).1 (List.mem_cons_of_mem _ hx)) with e | e
      · rw [e] at hx; exact absurd (a1 a hx) (plt_irr _)
      · exact e
    · rcases List.mem_cons.1 ((h x).2 (List.mem_cons_of_mem _ hx)) with e | e
      · rw [e] at hx; exact absurd (b1 a hx) (plt_irr _)
      · exact e
/-- rows as they are told -/
def encG (K : List Rw) : List Value := K.flatMap (fun x => encH (x.1.1 : Int) (x.1.2, x.2))
theorem encG_app (K L : List Rw) : encG (K ++ L) = encG K ++ encG L := by simp [encG]
/-- the rows of these places -/
def rws (bk : List (Option Lst)) (ps : List (Nat × Nat)) : List Rw := ps.flatMap (fun p => match atB bk (p.1 : Int) (p.2 : Int) with | some r => [(p, r)] | none => [])
theorem encT_rws (bk : List (Option Lst)) (ps : List (Nat × Nat)) : encT bk ps = encG (rws bk ps) := by
  induction ps with
  | nil => rfl
  | cons p t ih =>
    show (match atB bk (p.1 : Int) (p.2 : Int) with | some r => encH (p.1 : Int) (p.2, r) | none => []) ++ encT bk t = encG ((match atB bk (p.1 : Int) (p.2 : Int) with | some r => [(p, r)] | none => []) ++ rws bk t)
    rw [encG_app, ih]
    congr 1
    cases atB bk (p.1 : Int) (p.2 : Int) with
    | none => rfl
    | some r => simp [encG]
theorem mem_rws {bk : List (Option Lst)} {ps : List (Nat × Nat)} {a b : Nat} {r : Rc} : ((a, b), r) ∈ rws bk ps ↔ (a, b) ∈ ps ∧ atB bk (a : Int) (b : Int) = some r := by
  unfold rws
  rw [List.mem_flatMap]
  constructor
  · rintro ⟨⟨c, d⟩, hp, hm⟩
    cases hq : atB bk (c : Int) (d : Int) with
    | none => simp only [hq] at hm; cases hm
    | some r' =>
      simp only [hq] at hm
      cases List.mem_singleton.1 hm
      exact ⟨hp, hq⟩
  · rintro ⟨hp, hr⟩
    exact ⟨(a, b), hp, by simp only [hr]; exact List.mem_singleton.2 rfl⟩
theorem rws_srt {bk : List (Option Lst)} : ∀ {ps : List (Nat × Nat)}, ps.Pairwise PLt → (rws bk ps).Pairwise (fun a b => PLt a.1 b.1)
  | [], _ => List.Pairwise.nil
  | p :: t, h => by
    obtain ⟨h1, h2⟩ := List.pairwise_cons.1 h
    show List.Pairwise _ ((match atB bk (p.1 : Int) (p.2 : Int) with | some r => [(p, r)] | none => []) ++ rws bk t)
    rw [List.pairwise_append]
    refine ⟨?_, rws_srt h2, fun x hx y hy => ?_⟩
    · cases atB bk (p.1 : Int) (p.2 : Int) with
      | none => exact List.Pairwise.nil
      | some r => exact List.pairwise_singleton ..
    · obtain ⟨⟨ya, yb⟩, yr⟩ := y
      have hyp := (mem_rws.1 hy).1
      cases hq : atB bk (p.1 : Int) (p.2 : Int) with
      | none => rw [hq] at hx; cases hx
      | some r => rw [hq] at hx; cases List.mem_singleton.1 hx; exact h1 _ hyp
theorem rws_len {bk : List (Option Lst)} : ∀ {ps : List (Nat × Nat)}, (∀ p ∈ ps, ∃ r, atB bk (p.1 : Int) (p.2 : Int) = some r) → (rws bk ps).length = ps.length
  | [], _ => rfl
  | p :: t, h => by
    obtain ⟨r, hr⟩ := h p (List.mem_cons_self ..)
    show ((match atB bk (p.1 : Int) (p.2 : Int) with | some r => [(p, r)] | none => []) ++ rws bk t).length = _
    rw [hr, List.length_append, rws_len (fun q hq => h q (List.mem_cons_of_mem _ hq))]; simp; omega
theorem filt_srt {K : List Rw} (P : Rw → Bool) (h : K.Pairwise (fun a b => PLt a.1 b.1)) : (K.filter P).Pairwise (fun a b => PLt a.1 b.1) := h.filter P
/-- the rows that a test is for -/
theorem Ag.pls {bk : List (Option Lst)} {K : List Rw} (h : Ag bk K) (P : Rc → Bool) : K.filter (fun x => P x.2) = rws bk (pls P bk) := by
  refine uniq _ _ (filt_srt _ h.srt) (rws_srt (pls_sorted P bk)) (fun x => ?_)
  obtain ⟨⟨a, b⟩, r⟩ := x
  rw [List.mem_filter, mem_rws, mem_pls, h.mem]
  constructor
  · rintro ⟨h1, h2⟩; exact ⟨⟨r, h1, h2⟩, h1⟩
  · rintro ⟨⟨r', h1, h2⟩, h3⟩
    rw [h3] at h1; cases h1; exact ⟨h3, h2⟩
/-- one list's rows -/
def lrw (i : Nat) (l : Lst) : List Rw := (prs l 0).map (fun x => ((i, x.1), x.2))
theorem lrw_srt (i : Nat) (l : Lst) : (lrw i l).Pairwise (fun a b => PLt a.1 b.1) := by
  unfold lrw
  rw [List.pairwise_map]
  have := prsL_sorted (l.drop 0) 0
  exact this.imp (fun h => .inr ⟨rfl, h⟩)
theorem Ag.one {bk : List (Option Lst)} {K : List Rw} (h : Ag bk K) {i : Nat} {l : Lst} (hl : bk[i]? = some (some l)) (P : Rc → Bool) : K.filter (fun x => decide ((x.1.1 : Int) = (i : Int)) && P x.2) = (lrw i l).filter (fun x => P x.2) := by
  refine uniq _ _ (filt_srt _ h.srt) (filt_srt _ (lrw_srt i l)) (fun x => ?_)
  obtain ⟨⟨a, b⟩, r⟩ := x
  rw [List.mem_filter, List.mem_filter, h.mem]
  unfold lrw
  rw [List.mem_map]
  have hat : ∀ b : Nat, ∀ r : Rc, atB bk (i : Int) (b : Int) = some r ↔ (b, r) ∈ prs l 0 := by
    intro b r
    rw [prs_mem]
    unfold atB
    rw [look_nat, hl]
    show look l (b : Int) = some r ↔ _
    rw [look_nat]
    cases l[b]? with
    | none => simp
    | some o => cases o <;> simp
  constructor
  · rintro ⟨h1, h2⟩
    simp only [Bool.and_eq_true, decide_eq_true_eq] at h2
    obtain rfl : a = i := by have := h2.1; omega
    exact ⟨⟨(b, r), (hat b r).1 h1, rfl⟩, h2.2⟩
  · rintro ⟨⟨⟨b', r'⟩, h1, e⟩, h2⟩
    cases e
    exact ⟨(hat b' r').2 h1, by simpa using h2⟩
theorem encG_lrw (i : Nat) (l : Lst) : encG (lrw i l) = encHs (i : Int) (prs l 0) := by
  unfold encG lrw encHs
  rw [List.flatMap_map]
section
variable {w : World} {R : Nat} {bk bk' : List (Option Lst)} {F : Nat → Prop} {v : Value} {K : List Rw}
set_option maxRecDepth 100000 in
set_option maxHeartbeats 3200000 in
theorem countD_any (h : RbAt w R v bk K) (hl : K.length ≤ 768) (A B : Int) : Calls Tryz.prog 19 #[tp R, .int .i64 A, .int .i64 B] w fun x w' => x = .returned (.int .i64 ((K.filter (fun x : Rw => decide ((x.1.1 : Int) = A) && decide (x.2.k = B))).length : Nat)) ∧ w' = w := by
  have HR := hide h
  obtain ⟨a, c, hv⟩ := h.shape
  obtain ⟨L, hL⟩ : ∃ L, K.length = L := ⟨_, rfl⟩
  rw [hL] at hv hl
  have HL := hide hL
  subst hv
  have c16 := h.rowc
  clear h hL
  go_enter Tryz.func19, Tryz.ntmps19
  go_wp2
  go_loopw [7, 8] (fun nv x wr => ∃ k n : Nat, k ≤ L ∧ n ≤ k ∧ x = .int .i64 (k : Int) ∧ nv = .int .i64 (n : Int) ∧ Hid (n = ((K.take k).filter (fun x : Rw => decide ((x.1.1 : Int) = A) && decide (x.2.k = B))).length) ∧ wr = w) (fun _ x _ => L - (intOf x).toNat)
  case atStart => exact ⟨0, 0, by omega, by omega, rfl, rfl, by first | rfl | simp, by first | rfl | trivial⟩
  case round =>
  obtain ⟨k, n, hk, hn, rfl, rfl, KN, hw⟩ := hrel
  subst hw
  by_cases hlt : k < L
  · have hd : decide ((k : Int) < (L : Int)) = true := by simp; omega
    have hki : (k : Int) < (L : Int) := by omega
    obtain ⟨⟨⟨ya, yb⟩, yr⟩, hy⟩ : ∃ y, K[k]? = some y := ⟨_, List.getElem?_eq_getElem (by rw [HL.out]; exact hlt)⟩
    obtain ⟨g, c', hv, hrow⟩ := HR.out.at hy
    rw [HL.out] at hv
    cases hv
    have q1 := hrow.c0
    have q2 := hrow.c2
    simp only at q1 q2
    have HT := hide (take_get hy)
    clear hrow hy
    by_cases t1 : (ya : Int) = A
    · have t1' : (((ya : Int) : Int) == A) = true := by simp [t1]
      by_cases t2 : yr.k = B
      · have t2' : ((yr.k : Int) == B) = true := by simp [t2]
        have HN : Hid (n + 1 = ((K.take (k + 1)).filter (fun x : Rw => decide ((x.1.1 : Int) = A) && decide (x.2.k = B))).length) := hide (by rw [HT.out, List.filter_append, List.length_append, ← KN.out]; simp [t1, t2])
        clear t1 t2
        go_wp2
        go_roundw
        case rel => first | exact ⟨k + 1, n + 1, by omega, by omega, by go_num, by go_num, HN, by first | trivial | rfl⟩ | ((repeat apply Exists.intro); refine ⟨?_, rfl⟩; exact ⟨k + 1, n + 1, by omega, by omega, by go_num, by go_num, HN, by first | trivial | rfl⟩)
        case measure => simp [intOf]; omega
      · have t2' : ((yr.k : Int) == B) = false := by rw [beq_eq_false_iff_ne]; exact t2
        have HN : Hid (n = ((K.take (k + 1)).filter (fun x : Rw => decide ((x.1.1 : Int) = A) && decide (x.2.k = B))).length) := hide (by rw [HT.out, List.filter_append, List.length_append, ← KN.out]; simp [t1, t2])
        clear t1 t2
        go_wp2
        go_roundw
        case rel => first | exact ⟨k + 1, n, by omega, by omega, by go_num, rfl, HN, by first | trivial | rfl⟩ | ((repeat apply Exists.intro); refine ⟨?_, rfl⟩; exact ⟨k + 1, n, by omega, by omega, by go_num, rfl, HN, by first | trivial | rfl⟩)
        case measure => simp [intOf]; omega
    · have t1' : (((ya : Int) : Int) == A) = false := by rw [beq_eq_false_iff_ne]; exact t1
      have HN : Hid (n = ((K.take (k + 1)).filter (fun x : Rw => decide ((x.1.1 : Int) = A) && decide (x.2.k = B))).length) := hide (by rw [HT.out, List.filter_append, List.length_append, ← KN.out]; simp [t1])
      clear t1
      go_wp2
      go_roundw
      case rel => first | exact ⟨k + 1, n, by omega, by omega, by go_num, rfl, HN, by first | trivial | rfl⟩ | ((repeat apply Exists.intro); refine ⟨?_, rfl⟩; exact ⟨k + 1, n, by omega, by omega, by go_num, rfl, HN, by first | trivial | rfl⟩)
      case measure => simp [intOf]; omega
  · obtain rfl : k = L := by omega
    have hd : decide ((k : Int) < (k : Int)) = false := by simp
    have HF : Hid (n = (K.filter (fun x : Rw => decide ((x.1.1 : Int) = A) && decide (x.2.k = B))).length) := hide (by have := KN.out; rw [List.take_of_length_le (by rw [HL.out]; exact Nat.le_refl _)] at this; exact this)
    clear KN
    go_wp2
    go_ret
    exact ⟨by rw [← HF.out]; rfl, rfl⟩
set_option maxRecDepth 100000 in
set_option maxHeartbeats 3200000 in
theorem onD_any (h : RbAt w R v bk K) (hl : K.length ≤ 768) (A B : Int) : Calls Tryz.prog 21 #[tp R, .int .i64 A, .int .i64 B] w fun x w' => x = .returned (.int .i64 ((K.filter (fun x : Rw => decide (x.2.k = A) && decide (x.2.o = B))).length : Nat)) ∧ w' = w := by
  have HR := hide h
  obtain ⟨a, c, hv⟩ := h.shape
  obtain ⟨L, hL⟩ : ∃ L, K.length = L := ⟨_, rfl⟩
  rw [hL] at hv hl
  have HL := hide hL
  subst hv
  have c16 := h.rowc
  clear h hL
  go_enter Tryz.func21, Tryz.ntmps21
  go_wp2
  go_loopw [7, 8] (fun nv x wr => ∃ k n : Nat, k ≤ L ∧ n ≤ k ∧ x = .int .i64 (k : Int) ∧ nv = .int .i64 (n : Int) ∧ Hid (n = ((K.take k).filter (fun x : Rw => decide (x.2.k = A) && decide (x.2.o = B))).length) ∧ wr = w) (fun _ x _ => L - (intOf x).toNat)
  case atStart => exact ⟨0, 0, by omega, by omega, rfl, rfl, by first | rfl | simp, by first | rfl | trivial⟩
  case round =>
  obtain ⟨k, n, hk, hn, rfl, rfl, KN, hw⟩ := hrel
  subst hw
  by_cases hlt : k < L
  · have hd : decide ((k : Int) < (L : Int)) = true := by simp; omega
    have hki : (k : Int) < (L : Int) := by omega
    obtain ⟨⟨⟨ya, yb⟩, yr⟩, hy⟩ : ∃ y, K[k]? = some y := ⟨_, List.getElem?_eq_getElem (by rw [HL.out]; exact hlt)⟩
    obtain ⟨g, c', hv, hrow⟩ := HR.out.at hy
    rw [HL.out] at hv
    cases hv
    have q1 := hrow.c2
    have q2 := hrow.c3
    simp only at q1 q2
    have HT := hide (take_get hy)
    clear hrow hy
    by_cases t1 : yr.k = A
    · have t1' : ((yr.k : Int) == A) = true := by simp [t1]
      by_cases t2 : yr.o = B
      · have t2' : ((yr.o : Int) == B) = true := by simp [t2]
        have HN : Hid (n + 1 = ((K.take (k + 1)).filter (fun x : Rw => decide (x.2.k = A) && decide (x.2.o = B))).length) := hide (by rw [HT.out, List.filter_append, List.length_append, ← KN.out]; simp [t1, t2])
        clear t1 t2
        go_wp2
        go_roundw
        case rel => first | exact ⟨k + 1, n + 1, by omega, by omega, by go_num, by go_num, HN, by first | trivial | rfl⟩ | ((repeat apply Exists.intro); refine ⟨?_, rfl⟩; exact ⟨k + 1, n + 1, by omega, by omega, by go_num, by go_num, HN, by first | trivial | rfl⟩)
        case measure => simp [intOf]; omega
      · have t2' : ((yr.o : Int) == B) = false := by rw [beq_eq_false_iff_ne]; exact t2
        have HN : Hid (n = ((K.take (k + 1)).filter (fun x : Rw => decide (x.2.k = A) && decide (x.2.o = B))).length) := hide (by rw [HT.out, List.filter_append, List.length_append, ← KN.out]; simp [t1, t2])
        clear t1 t2
        go_wp2
        go_roundw
        case rel => first | exact ⟨k + 1, n, by omega, by omega, by go_num, rfl, HN, by first | trivial | rfl⟩ | ((repeat apply Exists.intro); refine ⟨?_, rfl⟩; exact ⟨k + 1, n, by omega, by omega, by go_num, rfl, HN, by first | trivial | rfl⟩)
        case measure => simp [intOf]; omega
    · have t1' : ((yr.k : Int) == A) = false := by rw [beq_eq_false_iff_ne]; exact t1
      have HN : Hid (n = ((K.take (k + 1)).filter (fun x : Rw => decide (x.2.k = A) && decide (x.2.o = B))).length) := hide (by rw [HT.out, List.filter_append, List.length_append, ← KN.out]; simp [t1])
      clear t1
      go_wp2
      go_roundw
      case rel => first | exact ⟨k + 1, n, by omega, by omega, by go_num, rfl, HN, by first | trivial | rfl⟩ | ((repeat apply Exists.intro); refine ⟨?_, rfl⟩; exact ⟨k + 1, n, by omega, by omega, by go_num, rfl, HN, by first | trivial | rfl⟩)
      case measure => simp [intOf]; omega
  · obtain rfl : k = L := by omega
    have hd : decide ((k : Int) < (k : Int)) = false := by simp
    have HF : Hid (n = (K.filter (fun x : Rw => decide (x.2.k = A) && decide (x.2.o = B))).length) := hide (by have := KN.out; rw [List.take_of_length_le (by rw [HL.out]; exact Nat.le_refl _)] at this; exact this)
    clear KN
    go_wp2
    go_ret
    exact ⟨by rw [← HF.out]; rfl, rfl⟩
end
end Go.Proofs.YteacmcdmdeckmaaGreat

namespace Go.Proofs.YteacmcdmdeckmaaGreat
open Go.RowKit

section
variable {w : World} {R : Nat} {bk bk' : List (Option Lst)} {F : Nat → Prop} {v : Value} {K : List Rw}
set_option maxRecDepth 100000 in
set_option maxHeartbeats 3200000 in
theorem listD_open (h : RbAt w R v bk K) (hw : Wb bk) (hl : K.length ≤ 768) (e : Int) (ho : (look bk e).isSome = true) : Calls Tryz.prog 16 #[tp R, .int .i64 e] w fun x w' => ∃ u, x = .returned (.tuple #[u, .int .i64 0]) ∧ w'.ownsRow w.heap.size 78 6 u (K.filter (fun x : Rw => decide ((x.1.1 : Int) = e))).length (encG (K.filter (fun x : Rw => decide ((x.1.1 : Int) = e)))) ∧ Below w.heap.size w w' := by
  obtain ⟨i6, hi6, hz6, hs6, hb6⟩ := info54'
  have HR := hide h
  have HH := hide (hasR_any h hw e)
  rw [ho] at HH
  obtain ⟨a, c, hv⟩ := h.shape
  obtain ⟨L, hL⟩ : ∃ L, K.length = L := ⟨_, rfl⟩
  rw [hL] at hv hl
  have HL := hide hL
  subst hv
  clear h hL ho hw
  go_enter Tryz.func16, Tryz.ntmps16
  go_wp2_with fail
  refine HH.out.mono ?_
  rintro e1 w1 ⟨rfl, hw1⟩
  subst hw1
  clear HH
  go_wp2
  go_loopw [6, 7] (fun rv x wr => ∃ k : Nat, k ≤ L ∧ x = .int .i64 (k : Int) ∧ ∃ (n : Nat) (a2 : Option Addr) (c2 : Nat), rv = .slice a2 n c2 ∧ n ≤ k ∧ Hid (n = ((K.take k).filter (fun x : Rw => decide ((x.1.1 : Int) = e))).length ∧ Below w1.heap.size w1 wr ∧ wr.ownsRow w1.heap.size 78 6 (.slice a2 n c2) n (encG ((K.take k).filter (fun x : Rw => decide ((x.1.1 : Int) = e)))))) (fun _ x _ => L - (intOf x).toNat)
  case atStart => exact ⟨0, by omega, rfl, 0, none, 0, rfl, by omega, hide ⟨by simp, Below.refl _ _, World.ownsRow_nil _ _ _ _⟩⟩
  case round =>
  obtain ⟨k, hk, rfl, n, a2, c2, rfl, hn, KK⟩ := hrel
  have hRr := HR.out.below KK.out.2.1
  have c16 := hRr.rowc
  by_cases hlt : k < L
  · have hd : decide ((k : Int) < (L : Int)) = true := by simp; omega
    have hki : (k : Int) < (L : Int) := by omega
    obtain ⟨⟨⟨ya, yb⟩, yr⟩, hy⟩ : ∃ y, K[k]? = some y := ⟨_, List.getElem?_eq_getElem (by rw [HL.out]; exact hlt)⟩
    obtain ⟨g, c', hv, hrow⟩ := hRr.at hy
    rw [HL.out] at hv
    cases hv
    obtain ⟨r0, r1, r2, r3, r4, r5, r6, r7⟩ := hrow
    simp only at r0 r1 r2 r3 r4 r5 r6 r7
    have HT := hide (take_get hy)
    clear hRr hy
    by_cases t1 : (ya : Int) = e
    · have t1' : ((ya : Int) == e) = true := by simp [t1]
      have HF : Hid ((K.take (k + 1)).filter (fun x : Rw => decide ((x.1.1 : Int) = e)) = (K.take k).filter (fun x : Rw => decide ((x.1.1 : Int) = e)) ++ [((ya, yb), yr)]) := hide (by rw [HT.out, List.filter_append]; simp [t1])
      clear t1
      go_wp2_with fail
      refine (heldR_any _ (ya : Int) (yb : Int) yr).mono ?_
      rintro e1 w2 ⟨rfl, hb2⟩
      have HO2 : Hid (w2.ownsRow w1.heap.size 78 6 (.slice a2 n c2) n (encG ((K.take k).filter (fun x : Rw => decide ((x.1.1 : Int) = e))))) := hide (ownsRow_keep KK.out.2.2 (fun b hb' => hb2.block b (ownsRow_lt KK.out.2.2 hb')))
      have HB2 := hide (KK.out.2.1.trans (hb2.mono KK.out.2.1.size))
      clear hb2
      go_upto_region 6 with (at_builtin; refine wpList_append_own _ rfl _ _ 52 rfl w1.heap.size 78 i6 (.agg #[.int .i64 0, .int .i64 0, .int .i64 0, .int .i64 0, .int .i64 0, .int .i64 0]) 6 48 Tryz.underlying52 hi6 hz6 hs6 hb6 rfl (by decide) _ n (encG ((K.take k).filter (fun x : Rw => decide ((x.1.1 : Int) = e)))) rfl (HO2.out.alloc _) ⟨w2.heap.size, 0, none⟩ 1 1 [.int .i64 (ya : Int), .int .i64 (yb : Int), .int .i64 yr.k, .int .i64 yr.o, .int .i64 yr.s, .int .i64 yr.r] rfl rfl ?p1 ?p2 ?p3 ?p4 ?p5 ?_)
      case p1 => exact cell_list_new _ _ [.int .i64 (ya : Int), .int .i64 (yb : Int), .int .i64 yr.k, .int .i64 yr.o, .int .i64 yr.s, .int .i64 yr.r]
      case p2 => simp [Value.oneCell']
      case p3 => unfold maxLen; omega
      case p4 => omega
      case p5 => have := HB2.out.size; simp; omega
      intro v3 w3 hown3 hg3 _
      obtain ⟨hb3, _⟩ := grew_keep HB2.out HO2.out (Nat.le_refl _) hg3
      obtain ⟨a3, c3, rfl⟩ := own_shape hown3
      have HEnd : Hid (n + 1 = ((K.take (k + 1)).filter (fun x : Rw => decide ((x.1.1 : Int) = e))).length ∧ Below w1.heap.size w1 w3 ∧ w3.ownsRow w1.heap.size 78 6 (.slice a3 (n + 1) c3) (n + 1) (encG ((K.take (k + 1)).filter (fun x : Rw => decide ((x.1.1 : Int) = e))))) := hide ⟨by rw [HF.out, List.length_append, ← KK.out.1]; rfl, hb3, by rw [HF.out, encG_app]; exact hown3⟩
      clear hown3 hg3 hb3 HO2 HB2 r0 r1 r2 r3 r4 r5 r6 r7 c16
      go_wp2
      go_roundw
      case rel => first | exact ⟨k + 1, by omega, by go_num, n + 1, a3, c3, rfl, by omega, HEnd⟩ | ((repeat apply Exists.intro); refine ⟨?_, rfl⟩; exact ⟨k + 1, by omega, by go_num, n + 1, a3, c3, rfl, by omega, HEnd⟩)
      case measure => simp [intOf]; omega
    · have t1' : ((ya : Int) == e) = false := by rw [beq_eq_false_iff_ne]; exact t1
      have HF : Hid ((K.take (k + 1)).filter (fun x : Rw => decide ((x.1.1 : Int) = e)) = (K.take k).filter (fun x : Rw => decide ((x.1.1 : Int) = e))) := hide (by rw [HT.out, List.filter_append]; simp [t1])
      have HEnd : Hid (n = ((K.take (k + 1)).filter (fun x : Rw => decide ((x.1.1 : Int) = e))).length ∧ Below w1.heap.size w1 wr ∧ wr.ownsRow w1.heap.size 78 6 (.slice a2 n c2) n (encG ((K.take (k + 1)).filter (fun x : Rw => decide ((x.1.1 : Int) = e))))) := hide ⟨by rw [HF.out]; exact KK.out.1, KK.out.2.1, by rw [HF.out]; exact KK.out.2.2⟩
      clear t1
      go_wp2
      go_roundw
      case rel => first | exact ⟨k + 1, by omega, by go_num, n, a2, c2, rfl, by omega, HEnd⟩ | ((repeat apply Exists.intro); refine ⟨?_, rfl⟩; exact ⟨k + 1, by omega, by go_num, n, a2, c2, rfl, by omega, HEnd⟩)
      case measure => simp [intOf]; omega
  · obtain rfl : k = L := by omega
    have hd : decide ((k : Int) < (k : Int)) = false := by simp
    have HEnd : Hid (Below w1.heap.size w1 wr ∧ wr.ownsRow w1.heap.size 78 6 (.slice a2 n c2) (K.filter (fun x : Rw => decide ((x.1.1 : Int) = e))).length (encG (K.filter (fun x : Rw => decide ((x.1.1 : Int) = e))))) := hide (by
      obtain ⟨q1, q2, q3⟩ := KK.out
      rw [List.take_of_length_le (by rw [HL.out]; exact Nat.le_refl _)] at q1 q3
      exact ⟨q2, by rw [← q1]; exact q3⟩)
    clear KK hRr
    go_wp2
    go_ret2
    exact ⟨_, rfl, HEnd.out.2, HEnd.out.1⟩
theorem listD_none (h : RbAt w R v bk K) (hw : Wb bk) (e : Int) (ho : look bk e = none) : Calls Tryz.prog 16 #[tp R, .int .i64 e] w fun x w' => x = .returned (.tuple #[.slice none 0 0, .int .i64 83]) ∧ w' = w := by
  have HH := hide (hasR_any h hw e)
  rw [ho] at HH
  clear h ho hw
  go_enter Tryz.func16, Tryz.ntmps16
  go_wp2_with fail
  refine HH.out.mono ?_
  rintro e1 w1 ⟨rfl, rfl⟩
  go_wp2
  go_ret2
  exact ⟨rfl, rfl⟩
theorem roomD_any (h : RbAt w R v bk K) (hw : Wb bk) (hl : K.length ≤ 768) (e : Int) : Calls Tryz.prog 23 #[tp R, .int .i64 e] w fun x w' => x = .returned (.int .i64 (if (look bk e).isSome then 48 - ((K.filter (fun x : Rw => decide ((x.1.1 : Int) = e))).length : Int) else 0)) ∧ Below w.heap.size w w' := by
  have HH := hide (hasR_any h hw e)
  cases hq : (look bk e).isSome with
  | false =>
    rw [hq] at HH
    clear h hq hw
    go_enter Tryz.func23, Tryz.ntmps23
    go_wp2_with fail
    refine HH.out.mono ?_
    rintro e1 w1 ⟨rfl, rfl⟩
    go_wp2
    go_ret
    exact ⟨rfl, Below.refl _ _⟩
  | true =>
    rw [hq] at HH
    have HL := hide (listD_open h hw hl e hq)
    have hfl : (K.filter (fun x : Rw => decide ((x.1.1 : Int) = e))).length ≤ 768 := Nat.le_trans (List.length_filter_le ..) hl
    obtain ⟨m, hm⟩ : ∃ m, (K.filter (fun x : Rw => decide ((x.1.1 : Int) = e))).length = m := ⟨_, rfl⟩
    rw [hm] at HL hfl
    rw [hm]
    have hwr : IntKind.i64.wrap (48 - (m : Int)) = 48 - (m : Int) := by simp [IntKind.wrap, IntKind.signed, IntKind.bits]; omega
    clear h hq hw hm
    go_enter Tryz.func23, Tryz.ntmps23
    go_wp2_with fail
    refine HH.out.mono ?_
    rintro e1 w1 ⟨rfl, hw1⟩
    subst hw1
    go_wp2_with fail
    refine HL.out.mono ?_
    rintro e1 w2 ⟨u, rfl, hown, hb2⟩
    obtain ⟨a3, c3, rfl⟩ := own_shape hown
    have HB := hide hb2
    clear hown hb2 HL HH
    go_wp2
    go_ret
    exact ⟨rfl, HB.out⟩
end
end Go.Proofs.YteacmcdmdeckmaaGreat
