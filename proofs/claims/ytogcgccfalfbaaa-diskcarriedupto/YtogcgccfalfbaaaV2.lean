import Derived.Test.YtogcgccfalfbaaaY0
namespace Go.Proofs.Ytogcgccfalfbaaa
open Go.RowKit

def two (z : Int) : List Value := [.int .i64 z, .int .u8 0]
/-- an own list of puts with the byte 0 -/
def NearA (v : Value) (l : List Int) : Asn := fun W H => W.ownsRow 0 30 2 v l.length (l.flatMap two) ∧ ∀ b, H b ↔ v.ownBlock = some b
theorem good_near (v : Value) (l : List Int) : Good (NearA v l) := by
  refine ⟨?_, ?_⟩
  · rintro W H ⟨h, he⟩ b hb
    exact ownsRow_lt h ((he b).1 hb)
  · rintro W W' H ⟨h, he⟩ _ hk
    exact ⟨ownsRow_keep h (fun b hb => hk b ((he b).2 hb)), he⟩
theorem two_get (l : List Int) (k : Nat) (z : Int) (hk : l[k]? = some z) : (l.flatMap two)[k * 2]? = some (.int .i64 z) ∧ (l.flatMap two)[k * 2 + 1]? = some (.int .u8 0) := by
  induction l generalizing k with
  | nil => simp at hk
  | cons y r ih =>
    have hf : (y :: r).flatMap two = [.int .i64 y, .int .u8 0] ++ r.flatMap two := rfl
    rw [hf]
    cases k with
    | zero => simp at hk; subst hk; simp
    | succ k =>
      obtain ⟨h1, h2⟩ := ih k (by simpa using hk)
      rw [List.getElem?_append_right (by simp; omega), List.getElem?_append_right (by simp; omega)]
      refine ⟨?_, ?_⟩
      · rw [← h1]; congr 1; simp; omega
      · rw [← h2]; congr 1; simp; omega
theorem NearA.puts {v : Value} {l : List Int} {W : World} {H : Nat → Prop} (h : NearA v l W H) (hl : ∀ z ∈ l, 0 ≤ z ∧ z ≤ 1024) : ∃ ao cap, v = .slice ao l.length cap ∧ IsPuts W ao l.length (fun k => (l.getD k 0, 0)) := by
  have h' := h.1
  obtain ⟨hn, ⟨hv, h0⟩ | ⟨g, cap, cur, hv, hb, hg, r⟩⟩ := h.1
  · exact ⟨none, 0, by rw [hv, h0], fun k hk => by omega⟩
  · refine ⟨_, cap, hv, fun k hk => ⟨_, rfl, ?_⟩⟩
    have hg' : l[k]? = some (l.getD k 0) := by rw [List.getD, List.getElem?_eq_getElem hk]; rfl
    obtain ⟨h1, h2⟩ := two_get l k _ hg'
    have hm : l.getD k 0 ∈ l := List.mem_of_getElem? hg'
    refine ⟨World.ownsRow.cells h' (by rw [hv]; rfl) _ _ h1, World.ownsRow.cells h' (by rw [hv]; rfl) _ _ h2, by show 0 < 256; omega, ?_, ?_⟩
    · have := (hl _ hm).1; show _ ≤ l.getD k 0; omega
    · have := (hl _ hm).2; show l.getD k 0 ≤ _; omega
theorem near_nil (W : World) : NearA (.slice none 0 0) [] W (fun _ => False) := ⟨World.ownsRow_nil _ _ _ _, fun b => by simp [Value.ownBlock]⟩
/-- the neighbours of the first k writes -/
def nx (Z : Nat → Int × Nat) (k : Nat) : List Int := (List.range k).map (fun j => ((pl (Z j).1 : Nat) : Int) + 1)
theorem nx_succ (Z : Nat → Int × Nat) (k : Nat) : nx Z (k + 1) = nx Z k ++ [((pl (Z k).1 : Nat) : Int) + 1] := by simp [nx, List.range_succ]
theorem nx_len (Z : Nat → Int × Nat) (k : Nat) : (nx Z k).length = k := by simp [nx]
theorem nx_in (Z : Nat → Int × Nat) (k : Nat) : ∀ z ∈ nx Z k, 0 ≤ z ∧ z ≤ 1024 := by
  intro z hz
  simp [nx] at hz
  obtain ⟨j, _, rfl⟩ := hz
  have := pl_lt (Z j).1
  omega
theorem info35' : ∃ i, Try.prog.info? 30 = some i ∧ i.zero = some (.agg #[.int .i64 0, .int .u8 0]) ∧ i.size = 2 ∧ i.bytes = 16 := info_parts (by kernel_rfl)
theorem cell_two_new (w : World) (t : TypeId) (u v : Value) : ∀ j x, [u, v][j]? = some x → (w.alloc (.cells #[u, v] t)).cell? ((⟨w.heap.size, 0, none⟩ : Addr).add j) = some x := by
  intro j x hx
  rw [add0, cell_of_row _ _ _ _ _ _ (heap_alloc_last w (.cells #[u, v] t))]
  simpa using hx
set_option maxRecDepth 100000 in
set_option maxHeartbeats 1000000 in
theorem next_any {w ws : World} (a : Option Addr) (len cap : Nat) (Z : Nat → Int × Nat) (hl : len ≤ 1048576) (hZ : IsPuts w a len Z) (hb : Below w.heap.size w ws) :
    Calls Try.prog 8 #[.slice a len cap] ws fun e w' => ∃ v H, e = .returned v ∧ NearA v (nx Z len) w' H ∧ (∀ b, H b → ws.heap.size ≤ b) ∧ Below ws.heap.size ws w' := by
  have HZ := hide hZ
  have HB := hide hb
  obtain ⟨i5, hi, hz, hs, hbb⟩ := info35'
  clear hZ hb
  go_enter Try.func8, Try.ntmps8
  go_wp2
  go_loopw [3, 4] (fun v i wr => ∃ k : Nat, k ≤ len ∧ i = .int .i64 (k : Int) ∧ ∃ H, NearA v (nx Z k) wr H ∧ (∀ b, H b → ws.heap.size ≤ b) ∧ Below ws.heap.size ws wr) (fun _ i _ => len - (intOf i).toNat)
  case atStart => exact ⟨0, Nat.zero_le _, rfl, fun _ => False, near_nil _, fun b h => h.elim, Below.refl _ _⟩
  case round =>
    obtain ⟨k, hk, rfl, H, hN, hH, hbel⟩ := hrel
    by_cases hlt : k < len
    · have hd1 : decide (k < len) = true := by simp; omega
      obtain ⟨x, hx, _, hp⟩ := HZ.out.at hlt
      subst hx
      obtain ⟨c0, _⟩ := hp _ (HB.out.trans (hbel.mono HB.out.size))
      have hNk := nx_succ Z k
      obtain ⟨zk, hzk⟩ : ∃ zk, (Z k).1 = zk := ⟨_, rfl⟩
      rw [hzk] at c0 hNk
      obtain ⟨pz, hpz⟩ : ∃ pz, pl zk = pz := ⟨_, rfl⟩
      have hpl := pl_lt zk
      rw [hpz] at hpl hNk
      obtain ⟨ao, cp, hv, _⟩ := hN.puts (nx_in Z k)
      rw [nx_len] at hv
      subst hv
      have hown : wr.ownsRow 0 30 2 (.slice ao k cp) k ((nx Z k).flatMap two) := by have := hN.1; rw [nx_len] at this; exact this
      have HO := hide (And.intro hown (And.intro hN (And.intro hH (And.intro hbel hNk))))
      clear hp hN hH hbel hown hNk
      go_wp2_with fail
      refine (place_any zk _).mono ?_
      rw [hpz]
      rintro e w1 ⟨rfl, rfl⟩
      go_wp2_with (at_builtin; refine wpList_append_own_at _ rfl _ _ 23 rfl 0 30 i5 (.agg #[.int .i64 0, .int .u8 0]) 2 16 Try.underlying23 hi hz hs hbb rfl (by decide) _ k ((nx Z k).flatMap two) rfl (HO.out.1.alloc _) ⟨w1.heap.size, 0, none⟩ 1 1 [.int .i64 ((pz : Int) + 1), .int .u8 0] rfl rfl ?c1 ?c2 ?c3 ?c4 ?c5 ?_)
      case c1 => exact cell_two_new _ _ _ _
      case c2 => simp [Value.oneCell']
      case c3 => unfold maxLen; omega
      case c4 => omega
      case c5 => exact Nat.zero_le _
      intro v' w3 hown3 hg3 _ hloc3
      have hb1 : Below w1.heap.size w1 (w1.alloc (Obj.cells #[.int .i64 ((pz : Int) + 1), .int .u8 0] 30)) := (Below.refl _ _).alloc (Nat.le_refl _) _
      have hb3 : Below ws.heap.size ws w3 := (HO.out.2.2.2.1.trans (hb1.mono HO.out.2.2.2.1.size)).grown hg3 (Nat.le_trans HO.out.2.2.2.1.size hb1.size) (fun b hb' => HO.out.2.2.1 b ((HO.out.2.1.2 b).2 hb'))
      have hnew : NearA v' (nx Z (k + 1)) w3 (fun b => v'.ownBlock = some b) := by
        refine ⟨?_, fun _ => Iff.rfl⟩
        rw [nx_len, HO.out.2.2.2.2]
        simpa [two] using hown3
      have hlow : ∀ b, v'.ownBlock = some b → ws.heap.size ≤ b := by
        intro b h
        rcases hloc3 with e | e
        · exact HO.out.2.2.1 b ((HO.out.2.1.2 b).2 (by rw [← e, h]))
        · rw [h] at e; simp at e; have := HO.out.2.2.2.1.size; omega
      have HNW := hide (And.intro hnew (And.intro hlow hb3))
      clear hown3 hg3 hloc3 hb1 hb3 hnew hlow HO c0
      go_wp2
      go_roundw
      case rel => exact ⟨k + 1, by omega, by go_num, _, HNW.out.1, HNW.out.2.1, HNW.out.2.2⟩
      case measure => simp [intOf]; omega
    · obtain rfl : k = len := by omega
      go_wp2
      go_ret
      exact ⟨_, H, rfl, hN, hH, hbel⟩
end Go.Proofs.Ytogcgccfalfbaaa
