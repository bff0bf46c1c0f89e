import Derived.Test.YthddilflldkmfaaDoorItma
import Derived.Test.YthddilflldkmfaaDoorWrtd
namespace Go.Proofs.YthddilflldkmfaaDoor
open Go.RowKit Go.Lib
theorem WTo.after {b : Nat} {v : Value} {X2 : List UInt8} {E2 : Nat} {w w1 w2 : World} (hb : Below w.heap.size w w1) (h2 : WTo b v X2 E2 w1 w2) : WTo b v X2 E2 w w2 :=
  WTo.step (Only.of_below hb) (fun _ q => .inl q) h2
theorem WAt.below {b : Nat} {v : Value} {X : List UInt8} {E : Nat} {w w' : World} (h : WAt b v X E w) (hb : Below w.heap.size w w') : WAt b v X E w' :=
  h.keep (Only.of_below (P := fun _ => False) hb) (fun q => q) (fun _ _ q => q)
/-- The box of an item. -/
structure Box (g : Nat) (x : Raw) (w : World) : Prop where
  c0 : w.cell? ⟨g, 0, none⟩ = some (.int .i64 x.k)
  c1 : w.cell? ⟨g, 1, none⟩ = some (.int .i64 x.s)
  c2 : w.cell? ⟨g, 2, none⟩ = some (.int .i64 x.n)
  c3 : w.cell? ⟨g, 3, none⟩ = some (.int .i64 x.m)
  c4 : w.cell? ⟨g, 4, none⟩ = some (.string ⟨x.t.toArray⟩)
  lt : g < w.heap.size
theorem Box.new (w : World) (x : Raw) : Box w.heap.size x (w.alloc (.cells #[.int .i64 x.k, .int .i64 x.s, .int .i64 x.n, .int .i64 x.m, .string ⟨x.t.toArray⟩] 57)) := by
  constructor <;> simp
theorem Box.below {g : Nat} {x : Raw} {w w' : World} (h : Box g x w) (b : Below w.heap.size w w') : Box g x w' :=
  ⟨(b.cell (p := ⟨g, 0, none⟩) h.lt).trans h.c0, (b.cell (p := ⟨g, 1, none⟩) h.lt).trans h.c1, (b.cell (p := ⟨g, 2, none⟩) h.lt).trans h.c2, (b.cell (p := ⟨g, 3, none⟩) h.lt).trans h.c3, (b.cell (p := ⟨g, 4, none⟩) h.lt).trans h.c4, Nat.lt_of_lt_of_le h.lt b.size⟩
theorem num_laid {x : Raw} (h : x.Fit) : numE x.size x.num = 0 ∧ numY x.size x.num = be x.size x.num := by
  have ho := Raw.ok h
  have h1 : 1 ≤ x.size := ho.s1
  have h8 : x.size ≤ 8 := ho.s8
  have hn : x.num < 256 ^ x.size := ho.n1
  refine ⟨?_, by simp [numY]⟩
  have hst : stnB (x.size : Int).toNat (x.num : Int) = true := by
    rw [stnB_iff]
    refine ⟨by omega, ?_⟩
    rw [Int.toNat_natCast]
    have e : ((256 ^ x.size : Nat) : Int) = (256 : Int) ^ x.size := Int.natCast_pow 256 x.size
    rw [← e]
    exact Int.ofNat_lt.2 hn
  unfold numE
  rw [if_pos ⟨by omega, by omega⟩, if_pos hst]
theorem text_laid {x : Raw} (h : x.Fit) : textE x.most (x.t.take 65535).length = 0 ∧ textY x.most (x.t.take 65535) = be (ahd x.most) (x.t.take 65535).length ++ x.t.take 65535 := by
  have ho := Raw.ok h
  have h1 : x.most ≤ 65535 := ho.m1
  have h2 : (x.t.take 65535).length ≤ x.most := ho.m2
  refine ⟨?_, rfl⟩
  unfold textE
  rw [if_pos ⟨by omega, by omega⟩, if_pos (by omega)]
set_option maxHeartbeats 2000000 in
set_option maxRecDepth 8000 in
theorem writes0 (x : Raw) (b : Nat) (v : Value) (X : List UInt8) (w : World) (h : x.Fit) (hk : pk x.k 3 = 0) (hw : WAt b v X 0 w) (hX : X.length ≤ 70368744177664) :
    Calls Tryd.prog 36 #[x.val, .pointer (some ⟨b, 0, none⟩)] w fun e w' => e = .returned (.tuple #[]) ∧ WTo b v (X ++ be x.size x.num) 0 w w' := by
  have HP := hide (fun W => pick_any x.k 3 W h.k.1 h.k.2 (by omega) (by omega))
  rw [hk] at HP
  have HS := hide (fun W => isize_any x W h)
  have HN := hide (fun W => inum_any x W h)
  have hbox := Box.new w x
  have hal : Below w.heap.size w (w.alloc (.cells #[.int .i64 x.k, .int .i64 x.s, .int .i64 x.n, .int .i64 x.m, .string ⟨x.t.toArray⟩] 57)) := (Below.refl _ _).alloc (Nat.le_refl _) _
  have hnl := num_laid h
  have hnm : (x.num : Int) ≤ 9223372036854775807 := by have := (Raw.ok h).n0; have e : x.itm.num = x.num := rfl; rw [e] at this; omega
  have HW := hide (fun W (hW : Below w.heap.size w W) => wnum_any b v X 0 x.size x.num W (hw.below hW) hnm hX)
  rw [hnl.1, hnl.2, wPut_ok] at HW
  unfold Raw.val at HS HN ⊢
  clear hnl hnm hw h hk
  go_enter Tryd.func36, Tryd.ntmps36
  go_wp2_with fail
  refine (unhide HP _).mono ?_
  rintro e w1 ⟨rfl, rfl⟩
  have HBox := hide hbox
  have HAl := hide hal
  generalize w.alloc (.cells #[.int .i64 x.k, .int .i64 x.s, .int .i64 x.n, .int .i64 x.m, .string ⟨x.t.toArray⟩] 57) = w1 at *
  clear hal
  obtain ⟨b0, b1, b2, b3, b4, b5⟩ := hbox
  go_wp2_with fail
  go_region_with (first | (go_at_call 71; refine (unhide HS _).mono ?_; rintro e wz ⟨rfl, hbz⟩; first | have hz : Below w1.heap.size w1 wz := Below.trans hz (hbz.mono hz.size) | have hz : Below w1.heap.size w1 wz := ((Below.refl w1.heap.size w1).drew).trans hbz; obtain ⟨d0, d1, d2, d3, d4, d5⟩ := (unhide HBox).below hz) | (go_at_call 72; refine (unhide HN _).mono ?_; rintro e wz ⟨rfl, hbz⟩; first | have hz : Below w1.heap.size w1 wz := Below.trans hz (hbz.mono hz.size) | have hz : Below w1.heap.size w1 wz := ((Below.refl w1.heap.size w1).drew).trans hbz; obtain ⟨d0, d1, d2, d3, d4, d5⟩ := (unhide HBox).below hz) | (go_at_call 13; refine (unhide HW _ ((unhide HAl).trans (hz.mono (unhide HAl).size))).mono ?_; rintro e wf ⟨rfl, hto⟩))
  all_goals go_wp2
  all_goals (go_end0; exact ⟨rfl, WTo.after ((unhide HAl).trans (hz.mono (unhide HAl).size)) hto⟩)
end Go.Proofs.YthddilflldkmfaaDoor
