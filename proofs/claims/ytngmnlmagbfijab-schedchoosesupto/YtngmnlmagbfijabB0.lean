import Derived.Test.YtngmnlmagbfijabRows
import Derived.WalkKit
import Derived.Handy
import Derived.WalkSpells
import Derived.WalkLawsBesides
import Derived.DataElems
import Derived.Deep.RegionLaw
import Derived.Deep.RegionHeld
import Derived.Deep.WholeRow
import Derived.Deep.MidRow
import Derived.Laws.OwnMore
import Derived.Laws.AppendOwnNone
import Derived.Laws.CopyOwn
import Derived.BigQuiet
import Derived.Deep.Cut
import Derived.Deep.DeepCutAuto
import Derived.WalkSmall
import Derived.MapKept
import Derived.RangeFuncRecord
import Derived.OwnWalk
import Derived.Below
namespace Go.Proofs.Ytngmnlmagbfijab
open Go.RowKit

theorem hide {p : Prop} (h : p) : Hid p := h
theorem add0 (g j : Nat) : (⟨g, 0, none⟩ : Addr).add j = ⟨g, j, none⟩ := by unfold Addr.add; split <;> simp_all
theorem blk_add (a : Addr) (i : Nat) : (a.add i).block = a.block := by unfold Addr.add; split <;> rfl
/-- what a call on the blocks F leaves of the rest -/
structure Mod (F : Nat → Prop) (w w' : World) : Prop where
  os : w'.os = w.os
  tape : w'.tape = w.tape
  output : w'.output = w.output
  size : w.heap.size ≤ w'.heap.size
  block : ∀ b, b < w.heap.size → ¬ F b → w'.heap[b]? = w.heap[b]?
/-- and these blocks behind it are F' -/
structure Ext (F : Nat → Prop) (w : World) (F' : Nat → Prop) (w' : World) : Prop where
  mod : Mod F w w'
  new : ∀ b, F' b → F b ∨ w.heap.size ≤ b
theorem Mod.refl (F : Nat → Prop) (w : World) : Mod F w w := ⟨rfl, rfl, rfl, Nat.le_refl _, fun _ _ _ => rfl⟩
theorem Mod.trans {F : Nat → Prop} {a b c : World} (h : Mod F a b) (k : Mod F b c) : Mod F a c :=
  ⟨k.os.trans h.os, k.tape.trans h.tape, k.output.trans h.output, Nat.le_trans h.size k.size, fun i hi hf => (k.block i (Nat.lt_of_lt_of_le hi h.size) hf).trans (h.block i hi hf)⟩
theorem Mod.alloc {F : Nat → Prop} {a w : World} (h : Mod F a w) (o : Obj) : Mod F a (w.alloc o) :=
  h.trans ⟨rfl, rfl, rfl, by simp, fun k hk _ => Below.heap_alloc _ _ _ (by omega)⟩
theorem Mod.setCell {F : Nat → Prop} {a w : World} (h : Mod F a w) {p : Addr} (hp : F p.block ∨ a.heap.size ≤ p.block) (u : Value) : Mod F a (w.setCell p u) :=
  ⟨h.os, h.tape, h.output, by simp [World.setCell]; exact h.size, fun k hk hf => by
    rw [Below.heap_setCell _ _ _ _ (fun e => by subst e; rcases hp with hp | hp; exact hf hp; omega)]; exact h.block k hk hf⟩
theorem Mod.putObj {F : Nat → Prop} {a w : World} (h : Mod F a w) {r : Nat} (hp : F r ∨ a.heap.size ≤ r) (o : Obj) : Mod F a (w.putObj r o) :=
  ⟨h.os, h.tape, h.output, by simp [World.putObj]; exact h.size, fun k hk hf => by
    rw [World.putObj_heap_other (fun e => by subst e; rcases hp with hp | hp; exact hf hp; omega)]; exact h.block k hk hf⟩
theorem Mod.drew {F : Nat → Prop} {a w : World} (h : Mod F a w) : Mod F a w.drew := ⟨h.os, h.tape, h.output, h.size, h.block⟩
theorem Mod.of_below {F : Nat → Prop} {a w : World} (h : Below a.heap.size a w) : Mod F a w := ⟨h.os, h.tape, h.output, h.size, fun k hk _ => h.block k hk⟩
theorem Mod.below {F : Nat → Prop} {a w : World} {B : Nat} (h : Mod F a w) (hF : ∀ b, F b → B ≤ b) (hB : B ≤ a.heap.size) : Below B a w :=
  ⟨h.os, h.tape, h.output, h.size, fun k hk => h.block k (by omega) (fun hf => by have := hF k hf; omega)⟩
theorem Ext.refl (F : Nat → Prop) (w : World) : Ext F w F w := ⟨Mod.refl _ _, fun _ h => .inl h⟩
theorem Ext.trans {F F' F'' : Nat → Prop} {a b c : World} (h : Ext F a F' b) (k : Ext F' b F'' c) : Ext F a F'' c :=
  ⟨⟨k.mod.os.trans h.mod.os, k.mod.tape.trans h.mod.tape, k.mod.output.trans h.mod.output, Nat.le_trans h.mod.size k.mod.size, fun i hi hf => by
      rw [k.mod.block i (Nat.lt_of_lt_of_le hi h.mod.size) (fun h' => by rcases h.new i h' with h1 | h1; exact hf h1; omega)]
      exact h.mod.block i hi hf⟩,
   fun i h' => by
      rcases k.new i h' with h1 | h1
      · exact h.new i h1
      · exact .inr (Nat.le_trans h.mod.size h1)⟩
theorem Ext.low {F F' : Nat → Prop} {a w : World} {B : Nat} (h : Ext F a F' w) (hF : ∀ b, F b → B ≤ b) (hB : B ≤ a.heap.size) : ∀ b, F' b → B ≤ b := by
  intro b hb; rcases h.new b hb with h1 | h1
  · exact hF b h1
  · omega
/-- an int -/
def Zi (n : Int) : Value := .int .i64 n
/-- v is a slice whose elements read zs in w, in a block of S -/
def Rd (S : Nat → Prop) (w : World) (v : Value) (zs : List Int) : Prop :=
  (v = .slice none 0 0 ∧ zs = []) ∨ ∃ x cap, v = .slice (some x) zs.length cap ∧ zs.length ≤ cap ∧ ∀ i u, (zs.map Zi)[i]? = some u → S x.block ∧ w.cell? (x.add i) = some u
/-- v is a slice of ints of the call's own -/
def Oi (w : World) (base : Nat) (v : Value) (is : List Int) : Prop := w.ownsRow base 3 1 v is.length (is.map Zi)
theorem Zi_one (zs : List Int) : ∀ u ∈ zs.map Zi, u.oneCell' = true := by
  intro u hu; simp at hu; obtain ⟨n, _, rfl⟩ := hu; rfl
section
variable {S S' : Nat → Prop} {w w' : World} {v : Value} {zs : List Int}
theorem Rd.len (h : Rd S w v zs) : ∃ ao cap, v = .slice ao zs.length cap ∧ zs.length ≤ cap := by
  rcases h with ⟨rfl, rfl⟩ | ⟨x, cap, rfl, h1, _⟩
  · exact ⟨_, _, rfl, Nat.le_refl _⟩
  · exact ⟨_, _, rfl, h1⟩
theorem Rd.some_of {ao : Option Addr} {n cap : Nat} (h : Rd S w (.slice ao n cap) zs) (hp : 0 < zs.length) : ∃ x, ao = some x ∧ S x.block ∧ ∀ i, i < zs.length → w.cell? (x.add i) = some (.int .i64 (zs.getD i 0)) := by
  rcases h with ⟨_, rfl⟩ | ⟨x, cap', h0, h1, h2⟩
  · simp at hp
  · have hg : ∀ i, i < zs.length → (zs.map Zi)[i]? = some (Zi (zs.getD i 0)) := fun i hi => by
      simp [List.getD_eq_getElem?_getD, List.getElem?_eq_getElem hi]
    refine ⟨x, by simp at h0; exact h0.1, (h2 0 _ (hg 0 hp)).1, fun i hi => (h2 i _ (hg i hi)).2⟩
theorem Rd.keep (h : Rd S w v zs) (hb : ∀ b, S b → w'.heap[b]? = w.heap[b]?) : Rd S w' v zs := by
  rcases h with ⟨rfl, rfl⟩ | ⟨x, cap, rfl, h1, h2⟩
  · exact .inl ⟨rfl, rfl⟩
  · refine .inr ⟨_, _, rfl, h1, fun i u hu => ⟨(h2 i u hu).1, ?_⟩⟩
    obtain ⟨h3, h4⟩ := h2 i u hu
    have h5 : w'.heap[(x.add i).block]? = w.heap[(x.add i).block]? := by rw [blk_add]; exact hb _ h3
    unfold World.cell? at h4 ⊢
    rw [h5]; exact h4
theorem Rd.mono (h : Rd S w v zs) (hb : ∀ b, S b → S' b) : Rd S' w v zs := by
  rcases h with ⟨rfl, rfl⟩ | ⟨x, cap, rfl, h1, h2⟩
  · exact .inl ⟨rfl, rfl⟩
  · exact .inr ⟨_, _, rfl, h1, fun i u hu => ⟨hb _ (h2 i u hu).1, (h2 i u hu).2⟩⟩
/-- a tail of it -/
theorem Rd.tail {x : Addr} {n cap : Nat} (h : Rd S w (.slice (some x) n cap) zs) {k d c : Nat} (hd : d = zs.length - k) (hc : d ≤ c) : Rd S w (.slice (some (x.add k)) d c) (zs.drop k) := by
  rcases h with ⟨h0, _⟩ | ⟨x', cap', h0, h1, h2⟩
  · cases h0
  · cases h0
    subst hd
    refine .inr ⟨x.add k, c, by rw [List.length_drop], by rw [List.length_drop]; exact hc, fun i u hu => ?_⟩
    rw [List.map_drop, List.getElem?_drop] at hu
    rw [blk_add, Addr.add_add]
    exact h2 _ _ hu
theorem Oi.rd {base : Nat} (h : Oi w base v zs) : Rd (fun b => base ≤ b ∧ b < w.heap.size ∧ v.ownBlock = some b) w v zs := by
  have h' := h
  obtain ⟨hl, ⟨rfl, h0⟩ | ⟨g, cap, cur, rfl, hb, hg, hn, hm, hs, ht⟩⟩ := h
  · exact .inl ⟨rfl, List.eq_nil_of_length_eq_zero h0⟩
  · exact .inr ⟨_, cap, rfl, hn, fun i u hu => ⟨⟨(World.ownsRow.lt h' g rfl).1, (World.ownsRow.lt h' g rfl).2, rfl⟩, World.ownsRow.cells h' rfl i u hu⟩⟩
theorem Oi.keep {base B : Nat} (h : Oi w base v zs) (hb : Below B w w') (hB : w.heap.size ≤ B) : Oi w' base v zs := by
  have h' := h
  obtain ⟨hl, ⟨rfl, h0⟩ | ⟨g, cap, cur, rfl, hbs, hg, hn, hm, hs, ht⟩⟩ := h
  · exact ⟨hl, .inl ⟨rfl, h0⟩⟩
  · have hlt := (World.ownsRow.lt h' g rfl).2
    exact ⟨hl, .inr ⟨g, cap, cur, rfl, hbs, by rw [hb.block g (by omega)]; exact hg, hn, hm, hs, ht⟩⟩
theorem Oi.low {base base' : Nat} (h : Oi w base v zs) (hb : base' ≤ base) : Oi w base' v zs := by
  obtain ⟨hl, ⟨rfl, h0⟩ | ⟨g, cap, cur, rfl, hbs, hg, hn, hm, hs, ht⟩⟩ := h
  · exact ⟨hl, .inl ⟨rfl, h0⟩⟩
  · exact ⟨hl, .inr ⟨g, cap, cur, rfl, by omega, hg, hn, hm, hs, ht⟩⟩
theorem Oi.lt {base : Nat} (h : Oi w base v zs) : ∀ b, v.ownBlock = some b → base ≤ b ∧ b < w.heap.size := fun b hb => World.ownsRow.lt h b hb
theorem Oi.keep1 {base : Nat} (h : Oi w base v zs) (hb : ∀ b, v.ownBlock = some b → w'.heap[b]? = w.heap[b]?) : Oi w' base v zs := by
  obtain ⟨hl, ⟨rfl, h0⟩ | ⟨g, cap, cur, rfl, hbs, hg, hn, hm, hs, ht⟩⟩ := h
  · exact ⟨hl, .inl ⟨rfl, h0⟩⟩
  · exact ⟨hl, .inr ⟨g, cap, cur, rfl, hbs, by rw [hb g rfl]; exact hg, hn, hm, hs, ht⟩⟩
end
theorem own_shape {w : World} {base : Nat} {e : TypeId} {size : Nat} {v : Value} {n : Nat} {xs : List Value} (h : w.ownsRow base e size v n xs) : ∃ a c, v = .slice a n c := by
  rcases h.2 with ⟨h1, h2⟩ | ⟨g, cap, cur, h1, _⟩
  · exact ⟨none, 0, by rw [h1, h2]⟩
  · exact ⟨_, _, h1⟩
theorem Rd.nil (S : Nat → Prop) (w : World) : Rd S w (.slice none 0 0) [] := .inl ⟨rfl, rfl⟩
theorem drewN_below (w : World) (B n : Nat) : Below B w (w.drewN n) := ⟨rfl, rfl, rfl, Nat.le_refl _, fun _ _ => rfl⟩
theorem info3' : ∃ i, Try.prog.info? 3 = some i ∧ i.zero = some (.int .i64 0) ∧ i.size = 1 ∧ i.bytes = 8 := info_parts (by kernel_rfl)
theorem wi (a : Int) (h1 : -9223372036854775808 ≤ a) (h2 : a ≤ 9223372036854775807) : IntKind.i64.wrap a = a := by
  simp [IntKind.wrap, IntKind.signed, IntKind.bits]; omega
theorem cell_one_new (w : World) (v : Value) (t : TypeId) : ∀ j u, [v][j]? = some u → (w.alloc (.cells #[v] t)).cell? ((⟨w.heap.size, 0, none⟩ : Addr).add j) = some u := by
  intro j u h
  match j, h with
  | 0, h =>
    simp at h
    subst h
    rw [add0, World.cell?_alloc_new]; rfl
theorem cell_row_new (w : World) (cs : Array Value) (t : TypeId) : ∀ j u, cs.toList[j]? = some u → (w.alloc (.cells cs t)).cell? ((⟨w.heap.size, 0, none⟩ : Addr).add j) = some u := by
  intro j u h
  rw [add0, World.cell?_alloc_new]
  rw [Array.getElem?_toList] at h
  simpa using h
end Go.Proofs.Ytngmnlmagbfijab
