import Derived.Test.YthlacailhfhjnaaGreatDoorWdp
import Derived.Test.YthlacailhfhjnaaGreatDoorWdo
import Derived.Test.YthlacailhfhjnaaGreatDoorWcp
namespace Go.Proofs.YthlacailhfhjnaaGreatDoor
open Go.RowKit Go.Lib
theorem feed_st {B R : Nat} {p : Ps} {O : Nat → Prop} {w0 W : World} (hE : Env B w0) (hb : Below w0.heap.size w0 W) (hr : Rdr R p O W) (hO : ∀ k, O k → w0.heap.size ≤ k) (s : Bs) (hs : s.length ≤ 1000000000000) (hrd : p.rd + s.length ≤ 4000000000000000000) :
    Calls Tryz.prog 21 #[ptr R, S s] W fun e w' => ∃ a c O', e = .returned (.tuple #[.slice a (feed p s).2.1.length c, .int .i64 (feed p s).2.2]) ∧ Below w0.heap.size w0 w' ∧ Rdr R (feed p s).1 O' w' ∧ (∀ k, O' k → w0.heap.size ≤ k) ∧ Mls w' a (feed p s).2.1.length (feed p s).2.1 := by
  refine (feed_any hr (hE.below (hb.mono hE.le)) (fun k hk => Nat.le_trans hE.le (hO k hk)) s hs hrd).mono ?_
  rintro e w' ⟨V, rfl, hF⟩
  obtain ⟨l, O', M, e1, hm, hr', s1, s2, s3⟩ := hF.ex
  obtain ⟨a, c, rfl, hl⟩ := hm.mls
  rw [← e1] at hl ⊢
  exact ⟨a, c, O', rfl, hF.only.below hb hb.size hO, hr', fun k hk => by
    rcases s1 k hk with q | q
    · exact hO k q
    · exact Nat.le_trans hb.size q, hl⟩
/-- A row of one message. -/
theorem mls_one {w : World} {g : Nat} {T : TypeId} {z : Ms} {a : Option Addr} {k : Nat} (h : w.heap[g]? = some (.cells #[S z.m, S z.p, .slice a z.hs.length k, S z.b] T (0, 0))) (hf : Fls w a z.hs.length z.hs) : Mls w (some ⟨g, 0, none⟩) 1 [z] := by
  refine ⟨rfl, fun _ => ⟨g, 0, rfl, fun j hj => ?_⟩⟩
  obtain rfl : j = 0 := by omega
  exact ⟨a, k, cell_of_row w g 0 _ T (0, 0) h, cell_of_row w g 1 _ T (0, 0) h, cell_of_row w g 2 _ T (0, 0) h, cell_of_row w g 3 _ T (0, 0) h, hf⟩
def mAw : Ms := ⟨[80, 79, 83, 84], [47, 116, 111, 107, 101, 110], [([72, 111, 115, 116], [97, 46, 101, 120, 97, 109, 112, 108, 101])], [120, 61, 49]⟩
theorem dec0 : decDigits 0 = [48] := by rw [decDigits, dif_pos (by decide)]; rfl
theorem dec3 : decDigits 3 = [51] := by rw [decDigits, dif_pos (by decide)]; rfl
theorem dec404 : decDigits 404 = [52, 48, 52] := by
  rw [decDigits, dif_neg (by decide), decDigits, dif_neg (by decide), decDigits, dif_pos (by decide)]; rfl
def tAw : Bs := [80, 79, 83, 84, 32, 47, 116, 111, 107, 101, 110, 32, 72, 84, 84, 80, 47, 49, 46, 49, 13, 10, 72, 111, 115, 116, 58, 32, 97, 46, 101, 120, 97, 109, 112, 108, 101, 13, 10, 67, 111, 110, 116, 101, 110, 116, 45, 76, 101, 110, 103, 116, 104, 58, 32, 51, 13, 10, 13, 10, 120, 61, 49]
theorem may_aw : may mAw = true := by decide +kernel
theorem lay_aw : lay (mline mAw.m mAw.p) mAw.hs mAw.b = tAw := by
  have : decDigits mAw.b.length = [51] := dec3
  unfold lay
  rw [this]
  decide +kernel
theorem pmsg_aw : pmsg mAw = (tAw, 0) := by
  unfold pmsg
  rw [if_pos may_aw, lay_aw]
theorem pans_aw : pans 404 [] [] = ([72, 84, 84, 80, 47, 49, 46, 49, 32, 52, 48, 52, 32, 78, 111, 116, 32, 70, 111, 117, 110, 100, 13, 10, 67, 111, 110, 116, 101, 110, 116, 45, 76, 101, 110, 103, 116, 104, 58, 32, 48, 13, 10, 13, 10], 0) := by
  unfold pans
  rw [if_pos (by decide +kernel)]
  have h1 : decDigits (([] : Bs).length) = [48] := dec0
  have h2 : decDigits (404 : Int).toNat = [52, 48, 52] := dec404
  unfold lay aline
  rw [h1, h2]
  decide +kernel
theorem feed_aw : ∃ r, feed p0 (tAw.take 60) = (r, [], 0) ∧ r.rd = 60 ∧ feed r (tAw.drop 60) = (p0, [mAw], 0) := by
  have := feed_begin may_aw 60 (by rw [lay_aw]; decide)
  rw [lay_aw] at this
  obtain ⟨r, h1, h2, _, h4⟩ := this
  exact ⟨r, h1, h2, h4⟩
theorem feed_aw2 : feed p0 [120, 10] = (pov, [], 50) := by kernel_rfl
theorem feed_aw3 : feed pov [] = (pov, [], 54) := rfl
end Go.Proofs.YthlacailhfhjnaaGreatDoor
