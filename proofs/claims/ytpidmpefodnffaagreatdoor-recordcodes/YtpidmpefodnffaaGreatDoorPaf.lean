import Derived.Test.YtpidmpefodnffaaGreatDoorZfde
import Derived.Test.YtpidmpefodnffaaGreatDoorZria
import Derived.Test.YtpidmpefodnffaaGreatDoorZpah
namespace Go.Proofs.YtpidmpefodnffaaGreatDoor
open Go.RowKit
set_option maxHeartbeats 4000000
set_option maxRecDepth 8000
def famK0 (k : Bs) : Bs × Nat := (k, 0)
def famK1 (k : Bs) : Bs × Nat := rr2 1 (famK0 k)
def fam_id (k : Bs) : Int := rv 8 (famK1 k)
def famV0 (v : Bs) : Bs × Nat := (v, 0)
def fam_cl (v : Bs) : Bs := tv 16 (famV0 v)
def famV1 (v : Bs) : Bs × Nat := ts 16 (famV0 v)
def fam_su (v : Bs) : Bs := tv 16 (famV1 v)
def famV2 (v : Bs) : Bs × Nat := ts 16 (famV1 v)
def fam_sc (v : Bs) : List Bs := (parse (tv 60 (famV2 v))).1
def famV3 (v : Bs) : Bs × Nat := ts 60 (famV2 v)
def fam_cr (v : Bs) : Int := rv 6 (famV3 v)
def famV4 (v : Bs) : Bs × Nat := rs 6 (famV3 v)
def fam_us (v : Bs) : Int := rv 6 (famV4 v)
def famV5 (v : Bs) : Bs × Nat := rs 6 (famV4 v)
def fam_idl (v : Bs) : Int := rv 6 (famV5 v)
def famV6 (v : Bs) : Bs × Nat := rs 6 (famV5 v)
def fam_ab (v : Bs) : Int := rv 6 (famV6 v)
def famV7 (v : Bs) : Bs × Nat := rs 6 (famV6 v)
def fam_gr (v : Bs) : Int := rv 6 (famV7 v)
def famV8 (v : Bs) : Bs × Nat := rs 6 (famV7 v)
def fam_ge (v : Bs) : Int := rv 4 (famV8 v)
def famV9 (v : Bs) : Bs × Nat := rs 4 (famV8 v)
def fam_to (v : Bs) : Int := rv 8 (famV9 v)
def famV10 (v : Bs) : Bs × Nat := rs 8 (famV9 v)
def fam_st (v : Bs) : Int := rv 1 (famV10 v)
def famV11 (v : Bs) : Bs × Nat := rs 1 (famV10 v)
def fam_en (v : Bs) : Int := rv 6 (famV11 v)
def famV12 (v : Bs) : Bs × Nat := rs 6 (famV11 v)
def fam_co (v : Bs) : Int := rv 8 (famV12 v)
end Go.Proofs.YtpidmpefodnffaaGreatDoor
