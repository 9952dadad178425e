import Derived.Test.YtemkmjeioghofaaN4
namespace Go.Proofs.Ytemkmjeioghofaa
open Go.RowKit

theorem Sys.callD {w wr : World} {R X : Asn} (h : Sys w wr (star X R)) (hR : Good R) :
    ∃ F F2 : Nat → Prop, X wr F ∧ R wr F2 ∧ (∀ b, F b → ¬ F2 b) ∧ ∀ (w' : World) (F' : Nat → Prop) (X' : Asn), X' w' F' → Ext F wr F' w' → Sys w w' (star X' R) := by
  obtain ⟨H, ⟨H1, H2, h1, h2, h3, h4⟩, hl, hb⟩ := h
  refine ⟨H1, H2, h1, h2, h4, fun w' F' X' hT hE => ?_⟩
  have hlt := hR.lt h2
  refine ⟨fun b => F' b ∨ H2 b, ⟨F', H2, hT, hR.keep h2 hE.mod.size (fun b hb' => hE.mod.block b (hlt b hb') (fun hf => h4 b hf hb')), fun _ => Iff.rfl, fun b h5 h6 => ?_⟩, ?_, hb.trans (hE.mod.below (fun b hb1 => hl b ((h3 b).2 (.inl hb1))) hb.size)⟩
  · rcases hE.new b h5 with h7 | h7
    · exact h4 b h7 h6
    · have := hlt b h6; omega
  · rintro b (h5 | h5)
    · rcases hE.new b h5 with h7 | h7
      · exact hl b ((h3 b).2 (.inl h7))
      · exact Nat.le_trans hb.size h7
    · exact hl b ((h3 b).2 (.inr h5))
theorem write_in {w wr : World} {R : Asn} {B gi ci s A : Nat} {M : Nat → List Nat} {RP : List Nat} (h : Sys w wr (star (DkA B (wait M [] A)) (star (OwA (.slice (some ⟨gi, 0, none⟩) 129 ci) (RP ++ [119])) R))) (hR : Good R) (hs : s < 1024) (hz : Sec RP) (hA : A < 1152921504606846976) :
    Calls Try.prog 15 #[dp B, .int .i64 (s : Int), .slice (some ⟨gi, 0, none⟩) 128 ci] wr fun e w6 => e = .returned (.int .i64 0) ∧ Sys w w6 (star (DkA B (wait M [(s, RP)] (A + 1))) (star (OwA (.slice (some ⟨gi, 0, none⟩) 129 ci) (RP ++ [119])) R)) := by
  obtain ⟨F, F2, hdk, ⟨F3, F4, hin, _, he3, _⟩, hdis, hn⟩ := h.callD ((good_ow _ _).star hR)
  refine (write_ok hdk s _ RP hs (in_rd hin hz.1) hz (fun b hb hf => hdis b hf ((he3 b).2 (.inl ((hin.2 b).2 hb)))) rfl (fun h => by cases h) hA (by show 0 < _; omega)).mono ?_
  rintro e w6 ⟨rfl, F6, hd6, hx6⟩
  exact ⟨rfl, hn w6 F6 _ hd6 hx6⟩
end Go.Proofs.Ytemkmjeioghofaa
