/- Trees: what balance makes. -/
import Derived.Test.YtamcobncfbjdmaaRI1
import Derived.Test.YtamcobncfbjdmaaRn
import Derived.Deep.QuietTactic
import Derived.BigQuiet
namespace Go.Proofs.Ytamcobncfbjdmaa
open Go.RowKit

theorem Rp.depth_le {α : Type} : ∀ {t : Rp α}, t.Lv → t.depth ≤ t.list.length ∧ 1 ≤ t.list.length
  | .leaf _, h => ⟨h.1, h.1⟩
  | .fork a b, h => by
    have h1 := Rp.depth_le h.1
    have h2 := Rp.depth_le h.2
    rw [Rp.depth, Rp.list, List.length_append]
    omega
/-- the tree of two trees whose depths differ. -/
def bal {α : Type} (p q : Rp α) : Rp α :=
  if q.depth + 1 < p.depth then
    match p with
    | .fork pl pr => if pr.depth ≤ pl.depth then .fork pl (.fork pr q) else
      match pr with
      | .fork x y => .fork (.fork pl x) (.fork y q)
      | .leaf _ => .fork p q
    | .leaf _ => .fork p q
  else if p.depth + 1 < q.depth then
    match q with
    | .fork ql qr => if ql.depth ≤ qr.depth then .fork (.fork p ql) qr else
      match ql with
      | .fork x y => .fork (.fork p x) (.fork y qr)
      | .leaf _ => .fork p q
    | .leaf _ => .fork p q
  else .fork p q
theorem bal_list {α : Type} (p q : Rp α) : (bal p q).list = p.list ++ q.list := by
  unfold bal
  repeat' split
  all_goals simp [Rp.list, List.append_assoc]
theorem bal_lv {α : Type} (p q : Rp α) (hp : p.Lv) (hq : q.Lv) : (bal p q).Lv := by
  unfold bal
  repeat' split
  all_goals simp_all [Rp.Lv]
end Go.Proofs.Ytamcobncfbjdmaa
