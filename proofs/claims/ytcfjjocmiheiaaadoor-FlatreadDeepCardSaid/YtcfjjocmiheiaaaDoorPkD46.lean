/-
  The document's own reading of tables: value and table of every depth. Conditions: those that each theorem names.
-/
import Derived.Test.YtcfjjocmiheiaaaDoorPkD31
import Derived.Test.YtcfjjocmiheiaaaDoorPkD32
import Derived.Test.YtcfjjocmiheiaaaDoorPkD33
import Derived.Test.YtcfjjocmiheiaaaDoorPkD34
import Derived.Test.YtcfjjocmiheiaaaDoorPkD35
import Derived.Test.YtcfjjocmiheiaaaDoorPkD36
import Derived.Test.YtcfjjocmiheiaaaDoorPkD39
import Derived.Test.YtcfjjocmiheiaaaDoorPkD40
namespace Go.Proofs.YtcfjjocmiheiaaaDoor
open Go.ChangeShapes Go.WideShapes Go.ChangeAt Go.RowKit Go.Shelf
variable {base B:Nat} {W W':World} {rk:Nat} {sv ev:Value} {root:Int} {bp:Option Addr} {bc:Nat} {zs:List Int} {ss:List (SRec × Value)} {es:List (SCho × Value)} {left l':Int}
theorem flatZ_num {ss:List CRec}{es:List SCho}{zs:List Int}{room k:Nat}{r l at' left:Int}(h:sortP k l=1):flatZ ss es zs room k r l at' left=numZ es zs k r at' left:=by
 rw [flatZ_eq]
 unfold valZ
 rw [if_pos h]
theorem flatZ_bytes {ss:List CRec}{es:List SCho}{zs:List Int}{room k:Nat}{r l at' left:Int}(h:sortP k l=2):flatZ ss es zs room k r l at' left=pointZ zs at' fun to=>bytesAtZ zs k to left:=by
 rw [flatZ_eq]
 unfold valZ
 rw [if_neg (by omega),if_pos h]
theorem flatZ_list {ss:List CRec}{es:List SCho}{zs:List Int}{room k:Nat}{r l at' left:Int}(h:sortP k l=3):flatZ ss es zs room k r l at' left=pointZ zs at' fun to=>listAtZ zs (nextZ ss es zs room) k r (l-1) to left:=by
 rw [flatZ_eq]
 unfold valZ
 rw [if_neg (by omega),if_neg (by omega),if_pos h]
theorem flatZ_struct {ss:List CRec}{es:List SCho}{zs:List Int}{room k:Nat}{r l at' left:Int}(h:sortP k l=4):flatZ ss es zs room k r l at' left=pointZ zs at' fun to=>structAtZ ss zs (nextZ ss es zs room) r to left:=by
 rw [flatZ_eq]
 unfold valZ
 rw [if_neg (by omega),if_neg (by omega),if_neg (by omega),if_pos h]
theorem point_ok {zs:List Int}{at':Int}{g:Int→Option (PV × Int)}(h:badJ zs at'=false):pointZ zs at' g=g (toJ zs at'):=by
 unfold pointZ
 rw [(jump_ok h).1]
theorem point_bad {zs:List Int}{at':Int}{g:Int→Option (PV × Int)}(h:badJ zs at'=true):pointZ zs at' g=none:=by
 unfold pointZ
 rw [jump_bad h]
theorem rdtab_step (room:Nat)(hr:room≤100)(hv:∀ q,room=q+1→RdValAt q):RdTabAt room:=
 ⟨fun {base B W rk sv ev root bp bc zs ss es left} h r to hrl hto=>by
  by_cases hok:TabOk zs room to left (to-sg32 (ldO zs to 4)) (ldO zs (to-sg32 (ldO zs to 4)) 2) (ldO zs (to-sg32 (ldO zs to 4)+2) 2)
  · obtain ⟨q,hq⟩:∃ q,room=q+1:=⟨room-1,by have:=hok.2.1;omega⟩
    exact rdtab_yes W h r hrl to room q hq (hv q hq) hto rfl rfl rfl hok hr
  · exact rdtab_no W h r to room hto rfl rfl rfl hok hr⟩
theorem rdval_step (room:Nat)(hr:room≤100)(ht:RdTabAt room)(hv:∀ q,room=q+1→RdValAt q):RdValAt room:=
 ⟨fun {base B W rk sv ev root bp bc zs ss es left} h k r l at' hty hat=>by
  have hl:=h.hl
  rcases tyM_sort hty with ⟨hl0,hs⟩|⟨hl0,hk,hk10,hs⟩|⟨hl0,hk,hs⟩|⟨hl0,hk,hs⟩
  · rw [flatZ_list hs]
    cases hj:badJ zs at' with
    | true=>exact rdval_bad W h k r l at' room hty (.inr hs) hat (by rw [hj];rfl) (point_bad hj)
    | false =>
     rw [point_ok hj]
     cases hin:inZ (lenZ zs) (toJ zs at') 4 with
     | false=>exact rdval_bad W h k r l at' room hty (.inr hs) hat (by rw [hj,hin];rfl) (by unfold listAtZ;exact if_neg (by rw [hin];decide))
     | true =>
      obtain ⟨lm,hlm⟩:∃ lm,l=lm+1:=⟨l-1,by omega⟩
      have hb:=leAt_4 zs (toJ zs at').toNat h.st.bytes.1
      by_cases hn0:leAt zs (toJ zs at').toNat 4=0
      · cases hnum:numTB k lm with
        | true=>exact rdval_zeroN W h k r l lm at' room hty hlm hnum hat hj hin hn0
        | false=>exact rdval_zeroO W h k r l lm at' room hty hlm hnum hat hj hin hn0
      · have hpos:0<leAt zs (toJ zs at').toNat 4:=by omega
        rcases Nat.eq_zero_or_pos room with h0|h0
        · cases hnum:numTB k lm with
          | true=>exact rdval_deepN W h k r l lm at' room hty hlm hnum hat hj hin hpos h0
          | false=>exact rdval_deepO W h k r l lm at' room hty hlm hnum hat hj hin hpos h0
        · obtain ⟨q,hq⟩:∃ q,room=q+1:=⟨room-1,by omega⟩
          cases hnum:numTB k lm with
          | true=>exact rdval_listN W h k r l lm at' room q hq (hv q hq) hty hlm hnum hat hj hin hpos hr
          | false=>exact rdval_listO W h k r l lm at' room q hq (hv q hq) hty hlm hnum hat hj hin hpos hr
  · subst hl0
    rw [flatZ_num hs]
    cases hin:inZ (lenZ zs) at' (kSize k) with
    | true=>exact rdval_in W h.st h.rows.rowV (fun V hx=>h.crows V hx) hl k r at' room hk hk10 hin
    | false=>exact rdval_out W h.st h.rows.rowV hl (es.map Prod.fst) k r at' room hk hk10 hin
  · rw [flatZ_bytes hs]
    cases hj:badJ zs at' with
    | true=>exact rdval_bad W h k r l at' room hty (.inl hs) hat (by rw [hj];rfl) (point_bad hj)
    | false =>
     rw [point_ok hj]
     cases hin:inZ (lenZ zs) (toJ zs at') 4 with
     | false=>exact rdval_bad W h k r l at' room hty (.inl hs) hat (by rw [hj,hin];rfl) (by unfold bytesAtZ;exact if_neg (by rw [hin];decide))
     | true=>exact rdval_bytes W h k r l at' room hty hs hat hj hin
  · rw [flatZ_struct hs]
    exact rdval_struct W h k r l hk hl0 at' room ht hty hat⟩
theorem rd_all:∀ room,room≤100→RdTabAt room∧RdValAt room
 | 0,h=>by
  have ht:=rdtab_step 0 h (fun q e=>by omega)
  exact ⟨ht,rdval_step 0 h ht (fun q e=>by omega)⟩
 | n+1,h=>by
  have hn:=(rd_all n (by omega)).2
  have hv:∀ q,n+1=q+1→RdValAt q:=fun q e=>by
   obtain rfl:n=q:=by omega
   exact hn
  have ht:=rdtab_step (n+1) h hv
  exact ⟨ht,rdval_step (n+1) h ht hv⟩
end Go.Proofs.YtcfjjocmiheiaaaDoor
