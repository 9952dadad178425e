import Derived.Test.YtmflohehnoghhaaH0
import Derived.Deep.RegionHeld
namespace Go.Proofs.Ytmflohehnoghhaa
open Go.RowKit

/-- an entry: nothing, or a slot and whether it may be written -/
abbrev E := Option (Nat × Bool)
def may : E → Nat
  | none => 0
  | some (_, false) => 1
  | some (_, true) => 2
def sl : E → Nat
  | none => 0
  | some (s, _) => s
def wb : E → Bool
  | none => false
  | some (_, b) => b
/-- the cells of an entry in a table, and as it is told -/
def enc (e : E) : List Value := [.int .i64 (may e : Nat), .int .i64 (sl e : Nat)]
def ent (e : E) : List Value := [.bool e.isSome, .int .i64 (sl e : Nat), .bool (wb e)]
theorem may_ne (e : E) : (may e ≠ 0) ↔ e.isSome = true := by
  rcases e with _ | ⟨s, b⟩
  · simp [may]
  · cases b <;> simp [may]
theorem may_two (e : E) : (may e = 2) ↔ wb e = true := by
  rcases e with _ | ⟨s, b⟩
  · simp [may, wb]
  · cases b <;> simp [may, wb]
theorem enc_inj {a b : E} (h : enc a = enc b) : a = b := by
  rcases a with _ | ⟨s, x⟩ <;> rcases b with _ | ⟨t, y⟩
  · rfl
  · cases y <;> simp [enc, may, sl] at h
  · cases x <;> simp [enc, may, sl] at h
  · cases x <;> cases y <;> simp [enc, may, sl] at h <;> (try omega) <;> (congr; omega)
theorem ent_inj {a b : E} (h : ent a = ent b) : a = b := by
  rcases a with _ | ⟨s, x⟩ <;> rcases b with _ | ⟨t, y⟩
  · rfl
  · simp [ent, sl, wb] at h
  · simp [ent, sl, wb] at h
  · simp [ent, sl, wb] at h; obtain ⟨h1, rfl⟩ := h; congr; omega
/-- sixteen parts -/
def arrN (f : Nat → List Value) (n : Nat) : List Value := (List.range n).flatMap f
def arr (f : Nat → List Value) : List Value := arrN f 16
theorem arrN_succ (f : Nat → List Value) (n : Nat) : arrN f (n + 1) = arrN f n ++ f n := by
  unfold arrN; rw [List.range_succ, List.flatMap_append]; simp
theorem arrN_len {f : Nat → List Value} {k : Nat} (h : ∀ i, (f i).length = k) (n : Nat) : (arrN f n).length = n * k := by
  induction n with
  | zero => simp [arrN]
  | succ n ih => rw [arrN_succ, List.length_append, ih, h, Nat.succ_mul]
theorem arrN_get {f : Nat → List Value} {k : Nat} (h : ∀ i, (f i).length = k) {n v j : Nat} (hv : v < n) (hj : j < k) : (arrN f n)[v * k + j]? = (f v)[j]? := by
  induction n with
  | zero => omega
  | succ n ih =>
    rw [arrN_succ]
    by_cases e : v = n
    · subst e
      rw [List.getElem?_append_right (by rw [arrN_len h]; omega), arrN_len h, Nat.add_sub_cancel_left]
    · have : v < n := by omega
      rw [List.getElem?_append_left (by rw [arrN_len h]; have := Nat.mul_le_mul_right k (show v + 1 ≤ n by omega); rw [Nat.succ_mul] at this; omega)]
      exact ih this
theorem arr_len {f : Nat → List Value} {k : Nat} (h : ∀ i, (f i).length = k) : (arr f).length = 16 * k := arrN_len h 16
theorem arr_get {f : Nat → List Value} {k : Nat} (h : ∀ i, (f i).length = k) {v j : Nat} (hv : v < 16) (hj : j < k) : (arr f)[v * k + j]? = (f v)[j]? := arrN_get h hv hj
theorem arr_ext {f : Nat → List Value} {k : Nat} (hk : 0 < k) (h : ∀ i, (f i).length = k) {cs : Array Value} (hs : cs.size = 16 * k) (hc : ∀ v, v < 16 → ∀ j, j < k → cs[v * k + j]? = (f v)[j]?) : cs = (arr f).toArray := by
  apply Array.ext_getElem?
  intro i
  by_cases hi : i < 16 * k
  · have e : i = i / k * k + i % k := by rw [Nat.mul_comm, Nat.div_add_mod]
    have h1 : i / k < 16 := (Nat.div_lt_iff_lt_mul hk).2 hi
    have h2 := Nat.mod_lt i hk
    have h3 := hc _ h1 _ h2
    have h4 := arr_get h h1 h2
    rw [← e] at h3 h4
    rw [h3, ← h4]; simp
  · rw [Array.getElem?_eq_none (by omega), Array.getElem?_eq_none (by simp [arr_len h]; omega)]
theorem arr_congr {f g : Nat → List Value} (h : ∀ v, v < 16 → f v = g v) : arr f = arr g := by
  have : ∀ n, n ≤ 16 → arrN f n = arrN g n := by
    intro n hn
    induction n with
    | zero => rfl
    | succ n ih => rw [arrN_succ, arrN_succ, ih (by omega), h n (by omega)]
  exact this 16 (Nat.le_refl _)
theorem arr_inj {f g : Nat → List Value} {k : Nat} (hf : ∀ i, (f i).length = k) (hg : ∀ i, (g i).length = k) (h : arr f = arr g) : ∀ v, v < 16 → f v = g v := by
  intro v hv
  apply List.ext_getElem?
  intro j
  by_cases hj : j < k
  · rw [← arr_get hf hv hj, ← arr_get hg hv hj, h]
  · rw [List.getElem?_eq_none (by rw [hf]; omega), List.getElem?_eq_none (by rw [hg]; omega)]
theorem arr_mem {f : Nat → List Value} {P : Value → Prop} (h : ∀ i, ∀ u ∈ f i, P u) : ∀ u ∈ arr f, P u := by
  intro u hu; simp only [arr, arrN, List.mem_flatMap] at hu; obtain ⟨i, _, hi⟩ := hu; exact h i u hi
/-- the cells of a table, and of all that is told -/
def tc (m : Nat → E) : List Value := arr fun i => enc (m i)
def sc (m : Nat → E) : List Value := arr fun i => ent (m i)
theorem enc_len (e : E) : (enc e).length = 2 := rfl
theorem ent_len (e : E) : (ent e).length = 3 := rfl
theorem tc_len (m : Nat → E) : (tc m).length = 32 := arr_len (k := 2) fun _ => rfl
theorem sc_len (m : Nat → E) : (sc m).length = 48 := arr_len (k := 3) fun _ => rfl
theorem enc_one (e : E) : ∀ u ∈ enc e, u.oneCell' = true := by intro u hu; simp [enc] at hu; rcases hu with rfl | rfl <;> rfl
theorem ent_one (e : E) : ∀ u ∈ ent e, u.oneCell' = true := by intro u hu; simp [ent] at hu; rcases hu with rfl | rfl | rfl <;> rfl
theorem tc_one (m : Nat → E) : ∀ u ∈ tc m, u.oneCell' = true := arr_mem fun _ => enc_one _
theorem sc_one (m : Nat → E) : ∀ u ∈ sc m, u.oneCell' = true := arr_mem fun _ => ent_one _
theorem tc_get (m : Nat → E) {v j : Nat} (hv : v < 16) (hj : j < 2) : (tc m)[v * 2 + j]? = (enc (m v))[j]? := arr_get (f := fun i => enc (m i)) (k := 2) (fun _ => rfl) hv hj
theorem sc_get (m : Nat → E) {v j : Nat} (hv : v < 16) (hj : j < 3) : (sc m)[v * 3 + j]? = (ent (m v))[j]? := arr_get (f := fun i => ent (m i)) (k := 3) (fun _ => rfl) hv hj
theorem tc_congr {m m' : Nat → E} (h : ∀ v, v < 16 → m v = m' v) : tc m = tc m' := arr_congr fun v hv => by rw [h v hv]
theorem sc_congr {m m' : Nat → E} (h : ∀ v, v < 16 → m v = m' v) : sc m = sc m' := arr_congr fun v hv => by rw [h v hv]
theorem tc_inj {m m' : Nat → E} (h : tc m = tc m') : ∀ v, v < 16 → m v = m' v := fun v hv => enc_inj (arr_inj (k := 2) (fun _ => rfl) (fun _ => rfl) h v hv)
theorem sc_inj {m m' : Nat → E} (h : sc m = sc m') : ∀ v, v < 16 → m v = m' v := fun v hv => ent_inj (arr_inj (k := 3) (fun _ => rfl) (fun _ => rfl) h v hv)
theorem tc_sc {m m' : Nat → E} : tc m = tc m' ↔ sc m = sc m' := ⟨fun h => sc_congr (tc_inj h), fun h => tc_congr (sc_inj h)⟩
def upd (m : Nat → E) (k : Nat) (f : E) : Nat → E := fun j => if j = k then f else m j
theorem upd_same (m : Nat → E) (k : Nat) (f : E) : upd m k f k = f := by simp [upd]
theorem upd_other (m : Nat → E) {k j : Nat} (f : E) (h : j ≠ k) : upd m k f j = m j := by simp [upd, h]
/-- a table at block B -/
structure Tb (w : World) (B : Nat) (m : Nat → E) : Prop where
  out : w.heap[B]? = some (.cells (tc m).toArray 51 (0, 0))
/-- all entries as told, at block N -/
structure Sn (w : World) (N : Nat) (m : Nat → E) : Prop where
  out : w.heap[N]? = some (.cells (sc m).toArray 35 (0, 0))
section
variable {w w' : World} {B N : Nat} {m : Nat → E}
theorem Tb.get (h : Tb w B m) {j : Nat} {u : Value} (hu : (tc m)[j]? = some u) : w.cell? ⟨B, j, none⟩ = some u := by
  rw [cell_of_row _ _ _ _ _ _ h.out]; simpa using hu
theorem Tb.c (h : Tb w B m) {v : Nat} (hv : v < 16) : w.cell? ⟨B, v * 2, none⟩ = some (.int .i64 (may (m v) : Nat)) ∧ w.cell? ⟨B, v * 2 + 1, none⟩ = some (.int .i64 (sl (m v) : Nat)) :=
  ⟨h.get (tc_get m hv (j := 0) (by omega)), h.get (tc_get m hv (j := 1) (by omega))⟩
theorem Tb.all (h : Tb w B m) : w.rangeAt B 0 (tc m) := fun j u hu => by rw [Nat.zero_add]; exact h.get hu
theorem Tb.lt (h : Tb w B m) : B < w.heap.size := (Array.getElem?_eq_some_iff.1 h.out).1
theorem Tb.frz (h : Tb w B m) (o : Nat) : w.frozen? ⟨B, o, none⟩ = false := frozen_of_row w B o _ _ h.out
theorem Tb.keep (h : Tb w B m) (hB : w'.heap[B]? = w.heap[B]?) : Tb w' B m := ⟨by rw [hB]; exact h.out⟩
theorem Tb.drew (h : Tb w B m) : Tb w.drew B m := h.keep rfl
theorem Tb.below (h : Tb w B m) (hb : Below w.heap.size w w') : Tb w' B m := h.keep (hb.block B h.lt)
theorem Tb.mod (h : Tb w B m) {F : Nat → Prop} (hb : Mod F w w') (hB : ¬ F B) : Tb w' B m := h.keep (hb.block B h.lt hB)
theorem Tb.alloc (h : Tb w B m) (o : Obj) : Tb (w.alloc o) B m := h.below ((Below.refl _ _).alloc (Nat.le_refl _) o)
theorem Tb.congr (h : Tb w B m) {m' : Nat → E} (e : ∀ v, v < 16 → m v = m' v) : Tb w B m' := ⟨by rw [← tc_congr e]; exact h.out⟩
theorem Tb.set (h : Tb w B m) {v : Nat} (hv : v < 16) (e : E) : Tb (w.setCells B (v * 2) (enc e)) B (upd m v e) := by
  obtain ⟨cs', h1, h2, h3⟩ := heap_setCells B 51 (enc e) (v * 2) w _ h.out
  have hs : (tc m).toArray.size = 32 := by simp [tc_len]
  refine ⟨?_⟩
  rw [h1, arr_ext (f := fun i => enc (upd m v e i)) (k := 2) (by omega) (fun _ => rfl) (cs := cs') (by omega) (fun p hp j hj => ?_)]; rfl
  rw [h3 _ (by omega), enc_len]
  by_cases ep : p = v
  · subst ep
    rw [if_pos (by omega), upd_same, Nat.add_sub_cancel_left]
  · rw [if_neg (by omega), upd_other _ _ ep]
    simpa using tc_get m hp hj
/-- the kind of an entry alone -/
theorem Tb.setMay (h : Tb w B m) {v : Nat} (hv : v < 16) (e : E) (he : sl e = sl (m v)) : Tb (w.setCell ⟨B, v * 2, none⟩ (.int .i64 (may e : Nat))) B (upd m v e) := by
  obtain ⟨cs', h1, h2, h3⟩ := heap_setCells B 51 [.int .i64 (may e : Nat)] (v * 2) w _ h.out
  have hs : (tc m).toArray.size = 32 := by simp [tc_len]
  refine ⟨?_⟩
  have h1' : (w.setCell ⟨B, v * 2, none⟩ (.int .i64 (may e : Nat))).heap[B]? = some (.cells cs' 51 (0, 0)) := h1
  rw [h1', arr_ext (f := fun i => enc (upd m v e i)) (k := 2) (by omega) (fun _ => rfl) (cs := cs') (by omega) (fun p hp j hj => ?_)]; rfl
  rw [h3 _ (by omega)]
  have hj' : j = 0 ∨ j = 1 := by omega
  by_cases ep : p = v
  · subst ep
    rw [upd_same]
    rcases hj' with rfl | rfl
    · rw [if_pos (by simp)]; simp [enc]
    · rw [if_neg (by simp)]
      have := tc_get m hp (j := 1) (by omega)
      simp [enc] at this
      simp [enc, this, he]
  · rw [if_neg (by simp; omega), upd_other _ _ ep]
    simpa using tc_get m hp hj
theorem Sn.get (h : Sn w N m) {j : Nat} {u : Value} (hu : (sc m)[j]? = some u) : w.cell? ⟨N, j, none⟩ = some u := by
  rw [cell_of_row _ _ _ _ _ _ h.out]; simpa using hu
theorem Sn.c (h : Sn w N m) {v : Nat} (hv : v < 16) : w.cell? ⟨N, v * 3, none⟩ = some (.bool (m v).isSome) ∧ w.cell? ⟨N, v * 3 + 1, none⟩ = some (.int .i64 (sl (m v) : Nat)) ∧ w.cell? ⟨N, v * 3 + 2, none⟩ = some (.bool (wb (m v))) :=
  ⟨h.get (sc_get m hv (j := 0) (by omega)), h.get (sc_get m hv (j := 1) (by omega)), h.get (sc_get m hv (j := 2) (by omega))⟩
theorem Sn.all (h : Sn w N m) : w.rangeAt N 0 (sc m) := fun j u hu => by rw [Nat.zero_add]; exact h.get hu
theorem Sn.lt (h : Sn w N m) : N < w.heap.size := (Array.getElem?_eq_some_iff.1 h.out).1
theorem Sn.keep (h : Sn w N m) (hB : w'.heap[N]? = w.heap[N]?) : Sn w' N m := ⟨by rw [hB]; exact h.out⟩
theorem Sn.drew (h : Sn w N m) : Sn w.drew N m := h.keep rfl
theorem Sn.below (h : Sn w N m) (hb : Below w.heap.size w w') : Sn w' N m := h.keep (hb.block N h.lt)
theorem Sn.mod (h : Sn w N m) {F : Nat → Prop} (hb : Mod F w w') (hB : ¬ F N) : Sn w' N m := h.keep (hb.block N h.lt hB)
theorem Sn.new (w : World) (m : Nat → E) : Sn (w.alloc (.cells (sc m).toArray 35)) w.heap.size m := ⟨heap_alloc_last _ _⟩
theorem Sn.set (h : Sn w N m) {v : Nat} (hv : v < 16) (e : E) : Sn (w.setCells N (v * 3) (ent e)) N (upd m v e) := by
  obtain ⟨cs', h1, h2, h3⟩ := heap_setCells N 35 (ent e) (v * 3) w _ h.out
  have hs : (sc m).toArray.size = 48 := by simp [sc_len]
  refine ⟨?_⟩
  rw [h1, arr_ext (f := fun i => ent (upd m v e i)) (k := 3) (by omega) (fun _ => rfl) (cs := cs') (by omega) (fun p hp j hj => ?_)]; rfl
  rw [h3 _ (by omega), ent_len]
  by_cases ep : p = v
  · subst ep
    rw [if_pos (by omega), upd_same, Nat.add_sub_cancel_left]
  · rw [if_neg (by omega), upd_other _ _ ep]
    simpa using sc_get m hp hj
theorem Sn.congr (h : Sn w N m) {m' : Nat → E} (e : ∀ v, v < 16 → m v = m' v) : Sn w N m' := ⟨by rw [← sc_congr e]; exact h.out⟩
end
/-- every slot is a slot -/
def Sm (m : Nat → E) : Prop := ∀ v s b, m v = some (s, b) → s < 48
theorem Sm.upd {m : Nat → E} (h : Sm m) {k s : Nat} {b : Bool} (hs : s < 48) : Sm (upd m k (some (s, b))) := by
  intro v t c; unfold Go.Proofs.Ytmflohehnoghhaa.upd; split
  · intro e; simp at e; omega
  · exact h v t c
theorem Sm.none {m : Nat → E} (h : Sm m) {k : Nat} : Sm (Go.Proofs.Ytmflohehnoghhaa.upd m k none) := by
  intro v t c; unfold Go.Proofs.Ytmflohehnoghhaa.upd; split
  · intro e; simp at e
  · exact h v t c
def nil : Nat → E := fun _ => none
theorem Sm.nil : Sm nil := fun _ _ _ h => by simp [Go.Proofs.Ytmflohehnoghhaa.nil] at h
end Go.Proofs.Ytmflohehnoghhaa
