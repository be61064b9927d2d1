/- The fixed check of the statements about terms. -/
import Derived.Test.YtajdpchojimigaaQn
import Derived.Test.YtajdpchojimigaaWt
namespace Go.Proofs.Ytajdpchojimigaa
open Go.RowKit TmM

def exT : ByteArray := ⟨#[39, 97, 98, 39, 32, 115, 46, 49, 32, 40, 60, 70, 32, 101, 46, 120, 62, 41]⟩
def exF : Fo := .cons 1 ⟨#[97]⟩ .nil (.cons 1 ⟨#[98]⟩ .nil (.cons 5 ⟨#[49]⟩ .nil (.cons 4 ⟨#[]⟩ (.cons 8 ⟨#[70]⟩ (.cons 7 ⟨#[120]⟩ .nil .nil) .nil) .nil)))

def f1 : Fo := .cons 1 ⟨#[97]⟩ .nil (.cons 1 ⟨#[98]⟩ .nil .nil)
def f2 : Fo := .cons 1 ⟨#[97]⟩ .nil (.cons 1 ⟨#[98]⟩ .nil (.cons 5 ⟨#[49]⟩ .nil .nil))
def g1 : Fo := .cons 7 ⟨#[120]⟩ .nil .nil
def g2 : Fo := .cons 8 ⟨#[70]⟩ g1 .nil

theorem rd_step {i j i2 : Nat} {S S2 S' : List It} (hj : skipAt exT i = j) (h : St exT j S i2 S2) (hlt : i < i2) (hle : i2 ≤ 18) (hj2 : j < 18) (hl : S.length ≤ 10) (hg : ∀ x ∈ S, x.2.2.len ≤ 10) (hr : Rd exT i2 S2 S') : Rd exT i S S' := by
  have hz : exT.size = 18 := rfl
  refine .step i i2 S S2 S' (by omega) (by omega) (by rw [hj]; exact h) hlt (by omega) (by omega) (fun x hx => Nat.le_trans (hg x hx) (by omega)) hr

theorem st0 : St exT 0 [(0, ⟨#[]⟩, .nil)] 4 [(0, ⟨#[]⟩, f1)] := by
  have h := St.chars (T := exT) (j := 0) [] 0 ⟨#[]⟩ .nil 2 (by decide) (by kernel_rfl) (by decide) (by decide) (by
    intro i hi h1 h2
    have h3 : i = 1 ∨ i = 2 := by omega
    rcases h3 with rfl | rfl
    · exact ⟨by decide +revert, by decide +revert, by kernel_rfl⟩
    · exact ⟨by decide +revert, by decide +revert, by kernel_rfl⟩) (by kernel_rfl)
  rw [show Fo.nil.app (foC (exT.extract (0 + 1) (0 + 1 + 2)).data.toList) = f1 from by kernel_rfl] at h
  exact h
theorem st1 : St exT 5 [(0, ⟨#[]⟩, f1)] 8 [(0, ⟨#[]⟩, f2)] := by
  have h := St.var (T := exT) (j := 5) [] 0 ⟨#[]⟩ f1 115 (by decide) (by kernel_rfl) (by decide) (by decide) (by decide) (by rw [show vkN (rest exT 5) = 5 from by kernel_rfl]; decide) (by kernel_rfl) (by kernel_rfl)
  rw [show f1.app (.cons (vkN (exT.extract 5 (varEnd exT 5))) ((exT.extract 5 (varEnd exT 5)).extract 2 (exT.extract 5 (varEnd exT 5)).size) .nil .nil) = f2 from by kernel_rfl, show varEnd exT 5 = 8 from by kernel_rfl] at h
  exact h
theorem st2 : St exT 9 [(0, ⟨#[]⟩, f2)] 10 [(0, ⟨#[]⟩, f2), (4, ⟨#[]⟩, .nil)] := St.opn (T := exT) (j := 9) [(0, ⟨#[]⟩, f2)] (by decide) (by kernel_rfl) (by kernel_rfl)
theorem st3 : St exT 10 [(0, ⟨#[]⟩, f2), (4, ⟨#[]⟩, .nil)] 12 [(0, ⟨#[]⟩, f2), (4, ⟨#[]⟩, .nil), (8, ⟨#[70]⟩, .nil)] := by
  have h := St.call (T := exT) (j := 10) [(0, ⟨#[]⟩, f2), (4, ⟨#[]⟩, .nil)] (by decide) (by kernel_rfl) (by kernel_rfl) (by kernel_rfl) (by kernel_rfl)
  rw [show exT.extract (nameAt exT 10) (nameEnd exT 10) = ⟨#[70]⟩ from by kernel_rfl, show nameEnd exT 10 = 12 from by kernel_rfl] at h
  exact h
theorem st4 : St exT 13 [(0, ⟨#[]⟩, f2), (4, ⟨#[]⟩, .nil), (8, ⟨#[70]⟩, .nil)] 16 [(0, ⟨#[]⟩, f2), (4, ⟨#[]⟩, .nil), (8, ⟨#[70]⟩, g1)] := by
  have h := St.var (T := exT) (j := 13) [(0, ⟨#[]⟩, f2), (4, ⟨#[]⟩, .nil)] 8 ⟨#[70]⟩ .nil 101 (by decide) (by kernel_rfl) (by decide) (by decide) (by decide) (by rw [show vkN (rest exT 13) = 7 from by kernel_rfl]; decide) (by kernel_rfl) (by kernel_rfl)
  rw [show Fo.nil.app (.cons (vkN (exT.extract 13 (varEnd exT 13))) ((exT.extract 13 (varEnd exT 13)).extract 2 (exT.extract 13 (varEnd exT 13)).size) .nil .nil) = g1 from by kernel_rfl, show varEnd exT 13 = 16 from by kernel_rfl] at h
  exact h
theorem st5 : St exT 16 [(0, ⟨#[]⟩, f2), (4, ⟨#[]⟩, .nil), (8, ⟨#[70]⟩, g1)] 17 [(0, ⟨#[]⟩, f2), (4, ⟨#[]⟩, g2)] := St.shut8 (T := exT) (j := 16) [(0, ⟨#[]⟩, f2)] 4 ⟨#[]⟩ .nil ⟨#[70]⟩ g1 (by decide) (by kernel_rfl) (by kernel_rfl)
theorem st6 : St exT 17 [(0, ⟨#[]⟩, f2), (4, ⟨#[]⟩, g2)] 18 [(0, ⟨#[]⟩, exF)] := St.shut4 (T := exT) (j := 17) [] 0 ⟨#[]⟩ f2 ⟨#[]⟩ g2 (by decide) (by kernel_rfl) (by kernel_rfl)
theorem ex_rd : Rd exT 0 [(0, ⟨#[]⟩, .nil)] [(0, ⟨#[]⟩, exF)] := by
  have h7 : Rd exT 18 [(0, ⟨#[]⟩, exF)] [(0, ⟨#[]⟩, exF)] := .stop 18 _ (by decide) (by kernel_rfl) (by decide)
  have h6 := rd_step (i := 17) (by kernel_rfl) st6 (by decide) (by decide) (by decide) (by decide) (by decide) h7
  have h5 := rd_step (i := 16) (by kernel_rfl) st5 (by decide) (by decide) (by decide) (by decide) (by decide) h6
  have h4 := rd_step (i := 12) (by kernel_rfl) st4 (by decide) (by decide) (by decide) (by decide) (by decide) h5
  have h3 := rd_step (i := 10) (by kernel_rfl) st3 (by decide) (by decide) (by decide) (by decide) (by decide) h4
  have h2 := rd_step (i := 8) (by kernel_rfl) st2 (by decide) (by decide) (by decide) (by decide) (by decide) h3
  have h1 := rd_step (i := 4) (by kernel_rfl) st1 (by decide) (by decide) (by decide) (by decide) (by decide) h2
  exact rd_step (i := 0) (by kernel_rfl) st0 (by decide) (by decide) (by decide) (by decide) (by decide) h1

theorem ex_small : Small exF := by unfold exF; repeat' (first | exact True.intro | refine And.intro ?_ ?_ | decide)
theorem ex_tok : TOk exF := by
  refine ⟨by decide, by decide, fun _ => ⟨by decide, by kernel_rfl⟩, trivial, by decide, by decide, fun _ => ⟨by decide, by kernel_rfl⟩, trivial, by decide, by decide, fun e => absurd e (by decide), trivial, by decide, by decide, fun e => absurd e (by decide), ?_, trivial⟩
  exact ⟨by decide, by decide, fun e => absurd e (by decide), ⟨by decide, by decide, fun e => absurd e (by decide), trivial, trivial⟩, trivial⟩

set_option maxHeartbeats 6400000 in
set_option maxRecDepth 100000 in
theorem awake_any (w : World) : Calls Try.prog 11 #[] w (OutV w (.bool true)) := by
  have PA0 := pparse_any exT exF w (by decide) ex_rd (by decide) ex_small (by kernel_rfl)
  have hl4 : exF.len = 4 := rfl
  rw [hl4] at PA0
  have PA := Lib.hid PA0
  have TX := Lib.hid (fun a c w1 (hs : Sl w1.heap.size w1 a c exF) => ptext_any exF a c w1 (by decide) ex_small hs ex_tok (by kernel_rfl) (by decide))
  rw [show (⟨(itemsW false false exF).toArray⟩ : ByteArray) = exT from by kernel_rfl, hl4] at TX
  have NM := Lib.hid (fun a l c w => pname_al 5 ⟨#[49]⟩ a l c w (by decide))
  rw [show nameF 5 ⟨#[49]⟩ = ⟨#[115, 46, 49]⟩ from by kernel_rfl] at NM
  unfold exT at PA TX
  clear PA0 hl4
  go_enter Try.func11, Try.ntmps11
  go_wp2_with (first
    | (go_at_call 50; refine PA.out.mono ?_; rintro r w1 ⟨a1, c1, rfl, hs1, hb1⟩; have HS1 := Lib.hid (hs1.out.sl (fun b hb => hb.2)); have HB1 := Lib.hid hb1; obtain ⟨b0, o0, hab, hb0, hcells⟩ := base_of HS1.out; obtain rfl := hab (by decide); have hlt0 := hb0 (by decide); clear hs1 hb1 hab hb0)
    | (go_at_call 48; refine (TX.out _ _ _ HS1.out).mono ?_; rintro r w2 ⟨rfl, hb2⟩; obtain ⟨k0, k1, ac, cc, k2, _⟩ := hcells.out 2 5 ⟨#[49]⟩ .nil _ rfl; have d0 := (hb2.cell (p := ⟨b0, o0 + 2 * 3, none⟩) hlt0).trans k0; have d1 := (hb2.cell (p := ⟨b0, o0 + 2 * 3 + 1, none⟩) hlt0).trans k1; have d2 := (hb2.cell (p := ⟨b0, o0 + 2 * 3 + 2, none⟩) hlt0).trans k2; simp only [Nat.reduceMul] at d0 d1 d2; have HB2 := Lib.hid hb2; clear hb2 k0 k1 k2)
    | (go_at_call 31; refine (NM.out _ _ _ _).mono ?_; rintro r w3 ⟨rfl, hb3⟩; have HB3 := Lib.hid hb3; clear hb3)
    | fail)
  go_ret
  exact ⟨rfl, HB1.out.trans ((HB2.out.mono HB1.out.size).trans (HB3.out.mono (Nat.le_trans HB1.out.size HB2.out.size)))⟩
end Go.Proofs.Ytajdpchojimigaa
