import Derived.Test.YtoddadohmnaolaaFE
namespace Go.Proofs.Ytoddadohmnaolaa
open Go.RowKit Go.Shelf

/-- what Destroy answers -/
def dsE (rs : List (Option Er)) (e : Int) : Int := match look rs e with | none => 90 | some _ => if e = 0 then 92 else 0
def dsL (rs : List (Option Er)) (e : Int) : List Nat := if dsE rs e = 0 then wk rs 17 e.toNat else []
def dsP (rs : List (Option Er)) (r : Er) : List (Option Er) := match look rs r.pa with | none => rs | some rp => rs.set r.pa.toNat (some { rp with le := rp.le.plus (r.qu.plus Qt.one) })
def dsS (rs : List (Option Er)) (e : Int) : List (Option Er) := match look rs e with | none => rs | some r => if e = 0 then rs else drops (dsP rs r) (wk rs 17 e.toNat)
/-- what Create answers -/
def crE (rs : List (Option Er)) (last e s : Int) (q : Qt) : Int := match look rs e with | none => 90 | some r => if q.good ∧ last < s ∧ s ≤ 4611686018427387903 then (if (q.plus Qt.one).le r.le ∧ ff rs < 16 then 0 else 2) else 1
def crN (rs : List (Option Er)) (last e s : Int) (q : Qt) : Int := if crE rs last e s q = 0 then ((ff rs : Nat) : Int) else -1
def crS (rs : List (Option Er)) (last e s : Int) (q : Qt) : List (Option Er) := match look rs e with | none => rs | some r => if crE rs last e s q = 0 then (rs.set (ff rs) (some (Er.new s e q))).set e.toNat (some { r with le := r.le.less (q.plus Qt.one) }) else rs
def crL (rs : List (Option Er)) (last e s : Int) (q : Qt) : Int := if crE rs last e s q = 0 then s else last
section
variable {w : World} {F : Nat → Prop} {T : Nat} {rs : List (Option Er)} {last : Int}
theorem own_nil (w : World) (b : Nat) : w.ownsRow b 3 1 (.slice none 0 0) 0 (numN []) := ⟨rfl, .inl ⟨rfl, rfl⟩⟩
theorem par_of (h : Iv rs last) {k : Nat} {r : Er} (hr : rs[k]? = some (some r)) (hk : k ≠ 0) : ∃ (p : Nat) (rp : Er), r.pa = (p : Int) ∧ rs[p]? = some (some rp) ∧ p ≠ k := by
  obtain ⟨p, h1, ⟨rp, h2⟩, h3⟩ := h.tr.par k r hr hk
  exact ⟨p, rp, h1, h2, fun e => by rw [e] at h3; omega⟩
theorem dsP_at {r rp : Er} {p : Nat} (h1 : r.pa = (p : Int)) (h2 : rs[p]? = some (some rp)) : dsP rs r = rs.set p (some { rp with le := rp.le.plus (r.qu.plus Qt.one) }) := by
  unfold dsP
  rw [h1, look_nat, h2]
  rfl
theorem Iv.dsS (h : Iv rs last) (e : Int) : Iv (dsS rs e) last := by
  unfold Go.Proofs.Ytoddadohmnaolaa.dsS
  cases hl : look rs e with
  | none => exact h
  | some r =>
    obtain ⟨k, rfl, hr⟩ := look_some hl
    simp only []
    by_cases hk : (k : Int) = 0
    · rw [if_pos hk]; exact h
    · rw [if_neg hk]
      obtain ⟨p, rp, h1, h2, _⟩ := par_of h hr (by omega)
      rw [dsP_at h1 h2]
      exact h.destroy hr (by omega) h1 h2
theorem destroy_any (h : Et w F T rs last) (iv : Iv rs last) (e : Int) : Calls Try.prog 19 #[.pointer (some ⟨T, 0, none⟩), .int .i64 e] w fun x w' => ∃ v, x = .returned (.tuple #[v, .int .i64 (dsE rs e)]) ∧ Et w' F T (dsS rs e) last ∧ w'.ownsRow w.heap.size 3 1 v (dsL rs e).length (numN (dsL rs e)) ∧ Mod F w w' := by
  unfold dsL dsE dsS
  cases hl : look rs e with
  | none =>
    refine (destroyNone_any w F T rs last h e hl).mono ?_
    rintro x w' ⟨rfl, rfl⟩
    exact ⟨_, rfl, h, own_nil _ _, Mod.refl _ _⟩
  | some r =>
    obtain ⟨k, rfl, hr⟩ := look_some hl
    simp only []
    by_cases hk : (k : Int) = 0
    · rw [if_pos hk, if_pos hk]
      obtain rfl : k = 0 := by omega
      refine (destroyZero_any w F T rs last h r hr).mono ?_
      rintro x w' ⟨rfl, rfl⟩
      exact ⟨_, rfl, h, own_nil _ _, Mod.refl _ _⟩
    · rw [if_neg hk, if_neg hk, if_pos rfl]
      obtain ⟨p, rp, h1, h2, h3⟩ := par_of iv hr (by omega)
      obtain ⟨rs1, hrs1⟩ : ∃ rs1, rs1 = rs.set p (some { rp with le := rp.le.plus (r.qu.plus Qt.one) }) := ⟨_, rfl⟩
      have hS : Same rs rs1 := by rw [hrs1]; exact Same.set h2 rfl rfl rfl
      have hT1 := iv.tr.same hS
      have := destroyOk_any w F T rs last h k p r rp hr (by omega) h1 h2 h3 (iv.oks hr).2.2 (iv.priceOk hr h2 h1) (iv.oks h2).1 rs1 hrs1 hT1.dis (fun n e => wk_len' hT1 n e) (fun e => kids_len hT1 e) 17 (dp17 hT1 k) (wk_nodup hT1 17 k) (fun c hc => wk_lv 17 ((hS.lv k).2 ⟨r, hr⟩) hc)
      rw [hS.wk, hrs1] at this
      rw [dsP_at h1 h2]
      exact this
theorem ff_none (h : Tr rs last) (hf : ff rs < 16) : rs[ff rs]? = some none := ff_free (by rw [h.len]; exact hf)
theorem Iv.crS (h : Iv rs last) (e s : Int) (q : Qt) : Iv (crS rs last e s q) (crL rs last e s q) := by
  unfold Go.Proofs.Ytoddadohmnaolaa.crS crL
  cases hl : look rs e with
  | none =>
    have : crE rs last e s q = 90 := by unfold crE; rw [hl]
    rw [this]; exact h
  | some r =>
    obtain ⟨k, rfl, hr⟩ := look_some hl
    simp only []
    by_cases hc : crE rs last (k : Int) s q = 0
    · rw [if_pos hc, if_pos hc]
      unfold crE at hc
      rw [hl] at hc
      simp only [] at hc
      by_cases h1 : q.good ∧ last < s ∧ s ≤ 4611686018427387903
      · rw [if_pos h1] at hc
        by_cases h2 : (q.plus Qt.one).le r.le ∧ ff rs < 16
        · exact h.create (ff_none h.tr h2.2) hr h1.2.1 h1.1 h2.1
        · rw [if_neg h2] at hc; cases hc
      · rw [if_neg h1] at hc; cases hc
    · rw [if_neg hc, if_neg hc]; exact h
theorem create_any (h : Et w F T rs last) (iv : Iv rs last) (e s : Int) (q : Qt) : Calls Try.prog 18 #[.pointer (some ⟨T, 0, none⟩), .int .i64 e, .int .i64 s, q.val] w fun x w' => x = .returned (.tuple #[.int .i64 (crN rs last e s q), .int .i64 (crE rs last e s q)]) ∧ ∃ F', Et w' F' T (crS rs last e s q) (crL rs last e s q) ∧ Ext F w F' w' := by
  have bel : ∀ {w' : World}, Below w.heap.size w w' → ∃ F', Et w' F' T rs last ∧ Ext F w F' w' := fun hb => ⟨F, h.below hb, ⟨Mod.of_below hb, fun _ h => .inl h⟩⟩
  unfold crN crS crL
  cases hl : look rs e with
  | none =>
    have hE : crE rs last e s q = 90 := by unfold crE; rw [hl]
    rw [hE]
    refine (createNone_any w F T rs last h e hl s q).mono ?_
    rintro x w' ⟨rfl, hb⟩
    exact ⟨rfl, bel hb⟩
  | some r =>
    obtain ⟨k, rfl, hr⟩ := look_some hl
    by_cases h1 : q.good ∧ last < s ∧ s ≤ 4611686018427387903
    · by_cases h2 : (q.plus Qt.one).le r.le
      · by_cases h3 : ff rs < 16
        · have hE : crE rs last (k : Int) s q = 0 := by unfold crE; rw [hl]; simp only []; rw [if_pos h1, if_pos ⟨h2, h3⟩]
          rw [hE]
          exact createOk_any w F T rs last h k r hr s q h1.1 h1.2.1 h1.2.2 h2 (iv.oks hr).1 h3
        · have hE : crE rs last (k : Int) s q = 2 := by unfold crE; rw [hl]; simp only []; rw [if_pos h1, if_neg (fun h9 => h3 h9.2)]
          rw [hE]
          refine (createRoom_any w F T rs last h k r hr s q h1.1 h1.2.1 h1.2.2 h2 (by have := ff_le rs; rw [iv.tr.len] at this; omega)).mono ?_
          rintro x w' ⟨rfl, hb⟩
          exact ⟨rfl, bel hb⟩
      · have hE : crE rs last (k : Int) s q = 2 := by unfold crE; rw [hl]; simp only []; rw [if_pos h1, if_neg (fun h9 => h2 h9.1)]
        rw [hE]
        refine (createFull_any w F T rs last h k r hr s q h1.1 h1.2.1 h1.2.2 h2).mono ?_
        rintro x w' ⟨rfl, hb⟩
        exact ⟨rfl, bel hb⟩
    · have hE : crE rs last (k : Int) s q = 1 := by unfold crE; rw [hl]; simp only []; rw [if_neg h1]
      rw [hE]
      by_cases hg : q.good
      · by_cases hs : s ≤ last
        · refine (createBad2_any w F T rs last h k r hr s q hg hs).mono ?_
          rintro x w' ⟨rfl, hb⟩
          exact ⟨rfl, bel hb⟩
        · refine (createBad3_any w F T rs last h k r hr s q hg (by omega) (by
            by_cases hx : s ≤ 4611686018427387903
            · exact absurd ⟨hg, by omega, hx⟩ h1
            · omega)).mono ?_
          rintro x w' ⟨rfl, hb⟩
          exact ⟨rfl, bel hb⟩
      · refine (createBad1_any w F T rs last h k r hr s q hg).mono ?_
        rintro x w' ⟨rfl, hb⟩
        exact ⟨rfl, bel hb⟩
end
end Go.Proofs.Ytoddadohmnaolaa
