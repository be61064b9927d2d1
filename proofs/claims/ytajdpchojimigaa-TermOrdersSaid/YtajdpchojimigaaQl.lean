/- The parser's method call. -/
import Derived.Test.YtajdpchojimigaaQk
import Derived.Deep.RegionLaw
namespace Go.Proofs.Ytajdpchojimigaa
open Go.RowKit TmM

section
variable {n p : Nat} {T : ByteArray} {bad : Int} {vo : Value} {E : List En}

def nameAt (T : ByteArray) (m : Nat) : Nat := skipAt T (m + 1)
def nameEnd (T : ByteArray) (m : Nat) : Nat := nameAt T m + identN (rest T (nameAt T m)).data.toList
theorem ident_le (s : ByteArray) : identN s.data.toList ≤ s.size := by
  have h := span_le 7 s
  unfold identN
  split
  · omega
  · rename_i b r hs
    split
    · exact h
    · omega

theorem step_append_kids {base m c : Nat} {S : Nat → Prop} {w : World} {v : Value} {G H : Fo} {xs : List Value} {ad : Option Addr} {ops : Array Oper} {o : Oper} {a : Act} {K : Act → World → Prop} {Q : Exit → Act → World → Prop} {E' : Prop} (hgd : o.guard = none) (s x : Operand) (hop : o.op = .call { callee := .builtin .append, args := #[s, x], argTypes := #[22, 22] })
    (hs : a.eval s = v) (hx : a.eval x = .slice ad m c) (ho : w.ownsRow base 35 3 v G.len xs) (hp : Put S w ad c H) (hl : G.len + H.len ≤ 8000000) (hm : m = H.len) (hb : base ≤ w.heap.size)
    (h : ∀ v' w' news, RepsS S w news H → w'.ownsRow base 35 3 v' (G.len + H.len) (xs ++ news) → w.grownBy w' v.ownBlock → (v'.ownBlock = v.ownBlock ∨ v'.ownBlock = some w.heap.size) → K (a.put o.dst v') w') :
    if Region.wanted o (yielded ops a.tmps) = true then Oper.wp Try.prog o a w K Q else E' := by
  have hw : Region.wanted o (yielded ops a.tmps) = true := by simp [Region.wanted, hgd]
  rw [if_pos hw]
  obtain ⟨v', w', news, hr, h1, h2, h3, h4⟩ := run_append_kids ho hp hl hm hb o.type
  unfold Oper.wp execOp
  simp only [hop, resolve, invoke, builtin, Sem.run_bind, Sem.run_pure, Result.andThen_ok, List.map_toArray, List.map_cons, List.map_nil, hs, hx, hr]
  exact h v' w' news h1 h2 h3 h4
theorem set_local {X Y : World} {a : Addr} {u : Value} {b : Nat} (h : X.heap[b]? = Y.heap[b]?) : (X.setCell a u).heap[b]? = (Y.setCell a u).heap[b]? := by simp [World.setCell, Array.getElem?_modify, h]
theorem set_swap {W : World} {p g o i j k : Nat} {v x y z : Value} (hpg : ¬ p = g) (b : Nat) : ((((W.setCell ⟨p, o, none⟩ v).setCell ⟨g, i, none⟩ x).setCell ⟨g, j, none⟩ y).setCell ⟨g, k, none⟩ z).heap[b]? = ((((W.setCell ⟨g, i, none⟩ x).setCell ⟨g, j, none⟩ y).setCell ⟨g, k, none⟩ z).setCell ⟨p, o, none⟩ v).heap[b]? := by
  by_cases e : b = p
  · subst e
    rw [Below.heap_setCell _ _ _ _ hpg, Below.heap_setCell _ _ _ _ hpg, Below.heap_setCell _ _ _ _ hpg]
    exact set_local (by rw [Below.heap_setCell _ _ _ _ hpg, Below.heap_setCell _ _ _ _ hpg, Below.heap_setCell _ _ _ _ hpg])
  · rw [Below.heap_setCell (a := ⟨p, o, none⟩) _ _ b e]
    exact set_local (set_local (set_local (Below.heap_setCell (a := ⟨p, o, none⟩) _ _ b e)))
/-- a row that has something, and what stands last in it. -/
theorem row_last {w : World} {B L : Nat} {v : Value} {xs news : List Value} (h : w.ownsRow B 35 3 v (L + 1) (xs ++ news)) (hx : xs.length = L * 3) : ∃ g cap u0 u1 u2, v = .slice (some ⟨g, 0, none⟩) (L + 1) cap ∧ L + 1 ≤ cap ∧ cap ≤ maxLen ∧ B ≤ g ∧ news.length = 3 ∧
    w.cell? ⟨g, L * 3, none⟩ = some u0 ∧ w.cell? ⟨g, L * 3 + 1, none⟩ = some u1 ∧ w.cell? ⟨g, L * 3 + 2, none⟩ = some u2 ∧ ∀ j, w.frozen? ⟨g, j, none⟩ = false := by
  have hl := h.1
  rw [List.length_append] at hl
  rcases h.2 with ⟨_, h0⟩ | ⟨g, cap, cur, rfl, hb, _, hnc, hcm, _⟩
  · omega
  · have hc := fun j hj => h.cellAt j hj
    refine ⟨g, cap, news[0]'(by omega), news[1]'(by omega), news[2]'(by omega), rfl, hnc, hcm, hb, by omega, ?_, ?_, ?_, h.frozenAt⟩
    · rw [hc _ (by omega), List.getElem?_append_right (by omega), show L * 3 - xs.length = 0 by omega]; exact List.getElem?_eq_getElem _
    · rw [hc _ (by omega), List.getElem?_append_right (by omega), show L * 3 + 1 - xs.length = 1 by omega]; exact List.getElem?_eq_getElem _
    · rw [hc _ (by omega), List.getElem?_append_right (by omega), show L * 3 + 2 - xs.length = 2 by omega]; exact List.getElem?_eq_getElem _
theorem row_shape {w : World} {B L : Nat} {v : Value} {xs : List Value} (h : w.ownsRow B 35 3 v L xs) : ∃ a c, v = .slice a L c ∧ (foC (List.replicate L 0)).len = L := by
  refine (show ∃ a c, v = .slice a L c from ?_).imp fun a h => h.imp fun c h => ⟨h, by rw [foC_len, List.length_replicate]⟩
  rcases h.2 with ⟨rfl, rfl⟩ | ⟨g, cap, cur, rfl, _⟩
  · exact ⟨none, 0, rfl⟩
  · exact ⟨_, _, rfl⟩

set_option maxHeartbeats 6400000 in
set_option maxRecDepth 100000 in
theorem pmcall_any (w : World) (m : Nat) (h : PSt n w p T m vo bad E) (hE : E.length ≤ 1000000) (hT : T.size ≤ 40000) (hm : m + 1 ≤ T.size) (hok : nameB 40 (T.extract (nameAt T m) (nameEnd T m)).data.toList = true) :
    Calls Try.prog 110 #[.pointer (some ⟨p, 0, none⟩)] w (fun r w' => r = .returned (.tuple #[]) ∧ ∃ vo', Hid (PSt n w' p T (nameEnd T m : Nat) vo' (badAt T (nameEnd T m) bad) (E ++ [⟨8, T.extract (nameAt T m) (nameEnd T m), .slice none 0 0, .nil⟩])) ∧ Hid (Below n w w')) := by
  have c1 := h.c1
  have f1 := h.fz 1
  have hja := skipAt_le hm
  obtain ⟨j, hj⟩ : ∃ j, j = nameAt T m := ⟨_, rfl⟩
  have hj' : skipAt T (m + 1) = j := by rw [hj]; rfl
  rw [hj'] at hja
  have hid := ident_le (rest T j)
  rw [rest_size] at hid
  have ID0 := fun w => ident_any (rest T j) w (by rw [rest_size]; omega)
  obtain ⟨k, hk⟩ : ∃ k, k = identN (rest T j).data.toList := ⟨_, rfl⟩
  have hke : nameEnd T m = j + k := by unfold nameEnd; rw [← hj, ← hk]
  rw [← hk] at ID0 hid
  obtain ⟨e, he⟩ : ∃ e, e = nameEnd T m := ⟨_, rfl⟩
  rw [← he] at hke hok ⊢
  rw [← hj] at hok ⊢
  have hes : e ≤ T.size := by omega
  have hje : j ≤ e := by omega
  have NA0 := fun w => pname_any (T.extract j e) w (by rw [ByteArray.size_extract]; omega)
  rw [hok] at NA0
  have NA := Lib.hid NA0
  have ID := Lib.hid ID0
  have hsl := run_slice_str T j e hje hes
  have HKE := Lib.hid (show (j : Int) + (k : Int) = (e : Int) from by omega)
  have HS1 := Lib.hid (h.setAt ((m : Int) + 1))
  have HB1 := Lib.hid ((Below.refl n w).setCell (p := ⟨p, 1, none⟩) h.le (.int .i64 ((m : Int) + 1)))
  have SK := Lib.hid (fun w (h : PSt n w p T ((m + 1 : Nat) : Int) vo bad E) => pskip_any w (m + 1) h hm hT)
  rw [hj'] at SK
  have hm1 : (m : Int) + 1 = ((m + 1 : Nat) : Int) := by omega
  have HM1 := Lib.hid hm1
  have hwr : IntKind.i64.wrap ((j : Int) + (k : Int)) = (e : Int) := by rw [IntWalk.i64_in _ (by omega)]; omega
  have hj0 : (0 : Int) ≤ (j : Int) := by omega
  have he0 : (0 : Int) ≤ (e : Int) := by omega
  have hje1 : (j : Int) ≤ (e : Int) := by omega
  have hes1 : (e : Int) ≤ (T.size : Int) := by omega
  have hj1 : (j : Int) ≤ (T.size : Int) := by omega
  clear h hj hj' hk he hke hok NA0 ID0 hid hm1
  go_enter Try.func110, Try.ntmps110
  go_wp2_with fail
  refine (SK.out _ (by rw [← HM1.out]; exact HS1.out)).mono ?_
  rintro r w2 ⟨rfl, h2, hb2⟩
  have d0 := h2.out.c0
  have d1 := h2.out.c1
  have IQ := Lib.hid (fun w => (ID.out w).mono (fun _ w' ⟨a, b⟩ => (⟨a, b.symm⟩ : _ ∧ w' = w)))
  clear c1 f1
  go_wp2_with fail
  go_quiet ((go_at_call 121; exact Calls.quiet_of_same (IQ.out _)))
  go_wp2
  go_quiet (fail)
  go_wp2_with (go_at_call 90; refine (NA.out _).mono ?_; rintro e' w' ⟨rfl, rfl⟩)
  have hplt := h2.out.lt
  have d2 := h2.out.c2
  have g2 := h2.out.fz 2
  obtain ⟨av, cv, hvo, hfl⟩ := row_shape h2.out.row
  rw [hvo] at d2
  have HVO := Lib.hid hvo
  have HFL := Lib.hid hfl
  have hEL := flatE_len E
  have HEL := Lib.hid hEL
  clear hvo hfl hEL
  have ZP : Hid (Put (fun _ => False) (w2.alloc (.cells #[.int .i64 0, .string ⟨#[]⟩, .slice none 0 0] 35)) (some ⟨w2.heap.size, 0, none⟩) 1 (.cons 0 ⟨#[]⟩ .nil .nil)) := Lib.hid (Put.new (S := fun _ => False) (news := [.int .i64 0, .string ⟨#[]⟩, .slice none 0 0]) (RepsS.one SlS.nil) rfl (fun _ h => h.elim) (fun _ h => h.elim))
  have ZB : Hid (Below w2.heap.size w2 (w2.alloc (.cells #[.int .i64 0, .string ⟨#[]⟩, .slice none 0 0] 35))) := Lib.hid ((Below.refl _ _).alloc (Nat.le_refl _) _)
  have HRW : Hid ((w2.alloc (.cells #[.int .i64 0, .string ⟨#[]⟩, .slice none 0 0] 35)).ownsRow n 35 3 (.slice av E.length cv) E.length (flatE E)) := Lib.hid (by rw [← HVO.out]; exact (h2.out.later ZB.out).row)
  have HPN : Hid ((Value.slice av E.length cv).ownBlock ≠ some p) := Lib.hid (by rw [← HVO.out]; exact row_ne h2.out.row h2.out.cell)
  have NS : Hid (p < (w2.alloc (.cells #[.int .i64 0, .string ⟨#[]⟩, .slice none 0 0] 35)).heap.size) := Lib.hid (by simp; omega)
  have hEi : (E.length : Int) < (E.length : Int) + 1 := by omega
  have hE0 : (0 : Int) ≤ (E.length : Int) := by omega
  have o2 : ∀ q o, ((w2.drewN q).alloc o).cell? ⟨p, 2, none⟩ = some (.slice av E.length cv) := fun q o => (World.cell?_of_block (heap_old (w2.drewN q) o p hplt)).trans d2
  go_region_law
    (first
      | (refine step_append_kids (by rfl) (.tmp 50) (.tmp 54) (by rfl) (by rfl) (by rfl) (G := foC (List.replicate E.length 0)) (H := .cons 0 ⟨#[]⟩ .nil .nil) (xs := flatE E) (base := n) (v := .slice av E.length cv) (S := fun _ => False) (c := 1) (ad := some ⟨w2.heap.size, 0, none⟩) (by rw [HFL.out]; exact HRW.out) ZP.out (by rw [HFL.out]; simp only [Fo.len_cons, Fo.len_nil]; omega) rfl (h2.out.later ZB.out).size ?_; intro v6 w6 news hn6 ho6 hg6 hat6; have ho7 : w6.ownsRow n 35 3 v6 (E.length + 1) (flatE E ++ news) := (by have h := ho6; rw [HFL.out] at h; exact h); obtain ⟨g, cap6, u0, u1, u2, rfl, hc61, hc62, hbg, hnl, e0, e1, e2, ef⟩ := row_last ho7 HEL.out; have f0 := ef (E.length * 3); have f1 := ef (E.length * 3 + 1); have f2 := ef (E.length * 3 + 2); have bp := (hg6.block p (NS.out) (fun c => HPN.out c.symm)).trans (heap_old w2 (.cells #[.int .i64 0, .string ⟨#[]⟩, .slice none 0 0] 35) p hplt); have x2 := (World.cell?_of_block (a := ⟨p, 2, none⟩) bp).trans d2; have y2 := (World.frozen?_of_block (a := ⟨p, 2, none⟩) bp).trans g2; have hpg : ¬ p = g := (fun c => row_ne ho7 (bp.trans h2.out.cell) (by rw [c]; rfl)); have hgp : ¬ g = p := (fun c => hpg c.symm); have HO7 := Lib.hid ho7; have HG6 := Lib.hid hg6; have HA6 := Lib.hid hat6; have HNL := Lib.hid hnl; have HBG := Lib.hid hbg; clear hn6 ho6 ho7 hg6 hat6 ef bp hnl hbg)
      | fail)
  all_goals
    have HG7 := Lib.hid (show (w2.alloc (.cells #[.int .i64 0, .string ⟨#[]⟩, .slice none 0 0] 35)).grownBy w6 (Value.slice av E.length cv).ownBlock from ⟨HG6.out.os, HG6.out.tape, HG6.out.output, HG6.out.size, HG6.out.block⟩)
    have HPU := Lib.hid ((h2.out.later ZB.out).push (w1 := w6) (k := 8) (t := T.extract j e) rfl HNL.out HO7.out (by rw [HVO.out]; exact HG7.out) (by rw [HVO.out]; exact HA6.out))
    have HPB := Lib.hid (((((hb2.out.trans (ZB.out.mono h2.out.size)).grown HG7.out (h2.out.later ZB.out).size (fun b hb => (HRW.out.lt b hb).1)).setCell (p := ⟨g, E.length * 3, none⟩) HBG.out (.int .i64 8)).setCell (p := ⟨g, E.length * 3 + 1, none⟩) HBG.out (.string (T.extract j e))).setCell (p := ⟨g, E.length * 3 + 2, none⟩) HBG.out (.slice none 0 0) |>.setCell (p := ⟨p, 2, none⟩) h2.out.le (.slice (some ⟨g, 0, none⟩) (E.length + 1) cap6))
    have HPB2 := Lib.hid ((((((hb2.out.trans (ZB.out.mono h2.out.size)).grown HG7.out (h2.out.later ZB.out).size (fun b hb => (HRW.out.lt b hb).1)).setCell (p := ⟨p, 2, none⟩) h2.out.le (.slice (some ⟨g, 0, none⟩) (E.length + 1) cap6)).setCell (p := ⟨g, E.length * 3, none⟩) HBG.out (.int .i64 8)).setCell (p := ⟨g, E.length * 3 + 1, none⟩) HBG.out (.string (T.extract j e))).setCell (p := ⟨g, E.length * 3 + 2, none⟩) HBG.out (.slice none 0 0))
    go_wp2_with (first
      | (go_at_call 135; refine (ppass_any _ (j : Int) e (HPU.out.keep (Nat.le_refl _) (fun _ _ _ => rfl)) hes hT).mono ?_; rintro r w9 ⟨rfl, hP9, hB9⟩)
      | (go_at_call 135; refine (ppass_any _ (j : Int) e (HPU.out.keep (by simp [World.setCell]) (fun b _ _ => set_swap hpg b)) hes hT).mono ?_; rintro r w9 ⟨rfl, hP9, hB9⟩))
    go_end0
    first
      | exact ⟨rfl, _, hP9, Lib.hid ((HB1.out.trans (show Below n _ _ from ⟨HPB.out.os, HPB.out.tape, HPB.out.output, HPB.out.size, HPB.out.block⟩)).trans hB9.out)⟩
      | exact ⟨rfl, _, hP9, Lib.hid ((HB1.out.trans (show Below n _ _ from ⟨HPB2.out.os, HPB2.out.tape, HPB2.out.output, HPB2.out.size, HPB2.out.block⟩)).trans hB9.out)⟩
end
end Go.Proofs.Ytajdpchojimigaa
