/-
  A plan that came in lies in every later world. Conditions: those that each theorem names.
-/
import Derived.Test.YtokhnoogkdlidaaGreatDoorPkP1
import Derived.Test.YtokhnoogkdlidaaGreatDoorPkP2
import Derived.Test.YtokhnoogkdlidaaGreatDoorPkP3
import Derived.Laws.BytesArg
namespace Go.Proofs.YtokhnoogkdlidaaGreatDoor
open Go.ChangeShapes Go.WideShapes Go.ChangeAt Go.RowKit Go.Shelf
set_option maxRecDepth 100000 in
theorem isnum_any (kind ref lists:Nat)(w:World)(hk:kind≤255) :
  Calls Tryz.prog 12 #[.agg #[.int .u8 kind,.int .i64 ref,.int .i64 lists]] w fun e w'=>e=.returned (.bool (isNumP kind lists))∧Below w.heap.size w w':=by
 have h0:=heap_alloc_new w (.cells #[.int .u8 kind,.int .i64 ref,.int .i64 lists] 46)
 have HB:=Lib.hid ((Below.refl w.heap.size w).alloc (Nat.le_refl _) (.cells #[.int .u8 kind,.int .i64 ref,.int .i64 lists] 46))
 obtain ⟨_,x0,x1,x2,_⟩:=blk3 h0
 clear h0
 have hb1:(kind:Int)≤255:=by omega
 by_cases hl:lists=0
 · have HS:Hid (isNumP kind lists=decide (0<kSize kind)):=Lib.hid (by unfold isNumP;rw [decide_eq_true hl,Bool.true_and])
   subst hl
   go_enter Tryz.func12,Tryz.ntmps12
   go_wp2_with fail
   refine (rsize_any _ _).mono ?_
   rintro e W1 ⟨rfl,rfl⟩
   generalize kSize (kind:Int)=z at *
   by_cases hs:0<z
   · go_wp2
     go_ret
     exact ⟨ret_bool (HS.out.trans (decide_eq_true hs)).symm,HB.out⟩
   · go_wp2
     go_ret
     exact ⟨ret_bool HS.out.symm,HB.out⟩
 · have HS:Hid (isNumP kind lists=false):=Lib.hid (by unfold isNumP;rw [decide_eq_false hl,Bool.false_and])
   have hl1:((lists:Int)==0)=false:=by simp;omega
   clear hl
   go_enter Tryz.func12,Tryz.ntmps12
   go_wp2
   go_ret
   exact ⟨ret_bool HS.out.symm,HB.out⟩
theorem kSize_vals:kSize 1=1∧kSize 2=1∧kSize 3=2∧kSize 4=4∧kSize 5=8∧kSize 6=1∧kSize 7=2∧kSize 8=4∧kSize 9=8∧kSize 10=1:=by decide
theorem numP_low (cnt kind n s:Nat)(h1:kind≠1)(h10:kind≠10)(hs:kSize kind=s)(h8:(s:Int)<8):numP cnt kind n=if kSign kind=true then (sgnOf ((n % 2 ^ (8 * s):Nat):Int) s).toNat else n % 2 ^ (8 * s):=by
 unfold numP
 rw [if_neg h1,if_neg h10]
 simp only [hs]
 rw [if_pos h8,Int.toNat_natCast]
theorem numP_high (cnt kind n:Nat)(h1:kind≠1)(h10:kind≠10)(hs:kSize kind=8):numP cnt kind n=if kSign kind=true then (sgnOf (n:Int) 8).toNat else n:=by
 unfold numP
 rw [if_neg h1,if_neg h10]
 simp only [hs,Int.lt_irrefl,if_false]
theorem number_plain (cnt n:Nat):numP cnt 2 n=(sgnOf ((n % 256:Nat):Int) 1).toNat∧numP cnt 3 n=(sgnOf ((n % 65536:Nat):Int) 2).toNat∧numP cnt 4 n=(sgnOf ((n % 4294967296:Nat):Int) 4).toNat∧numP cnt 5 n=(sgnOf (n:Int) 8).toNat ∧
  numP cnt 6 n=n % 256∧numP cnt 7 n=n % 65536∧numP cnt 8 n=n % 4294967296∧numP cnt 9 n=n:=by
 have e1:(2:Nat) ^ (8 * 1)=256:=by decide
 have e2:(2:Nat) ^ (8 * 2)=65536:=by decide
 have e4:(2:Nat) ^ (8 * 4)=4294967296:=by decide
 have a2:=numP_low cnt 2 n 1 (by decide) (by decide) rfl (by decide)
 have a3:=numP_low cnt 3 n 2 (by decide) (by decide) rfl (by decide)
 have a4:=numP_low cnt 4 n 4 (by decide) (by decide) rfl (by decide)
 have a6:=numP_low cnt 6 n 1 (by decide) (by decide) rfl (by decide)
 have a7:=numP_low cnt 7 n 2 (by decide) (by decide) rfl (by decide)
 have a8:=numP_low cnt 8 n 4 (by decide) (by decide) rfl (by decide)
 have a5:=numP_high cnt 5 n (by decide) (by decide) rfl
 have a9:=numP_high cnt 9 n (by decide) (by decide) rfl
 rw [e1] at a2 a6
 rw [e2] at a3 a7
 rw [e4] at a4 a8
 refine ⟨a2.trans (if_pos rfl),a3.trans (if_pos rfl),a4.trans (if_pos rfl),a5.trans (if_pos rfl),a6.trans (if_neg (by decide)),a7.trans (if_neg (by decide)),a8.trans (if_neg (by decide)),a9.trans (if_neg (by decide))⟩
theorem sgn_pos (m n:Int)(h1:0<m)(h2:m≤2147483648):0≤sgn m n:=by
 unfold sgn
 have:=Int.emod_nonneg n (show (2 * m)≠0 by omega)
 split<;>omega
theorem sgnOf_pos (n s:Int)(h:0≤n):0≤sgnOf n s:=by
 unfold sgnOf
 split
 · exact sgn_pos _ _ (by decide) (by decide)
 · split
   · exact sgn_pos _ _ (by decide) (by decide)
   · split
     · exact sgn_pos _ _ (by decide) (by decide)
     · exact h
theorem two_start (w:World)(a b:Array Value)(s t:TypeId):Below w.heap.size w ((w.alloc (.cells a s)).alloc (.cells b t))∧((w.alloc (.cells a s)).alloc (.cells b t)).heap[w.heap.size]?=some (.cells a s (0,0))∧((w.alloc (.cells a s)).alloc (.cells b t)).heap[w.heap.size+1]?=some (.cells b t (0,0)):=by
 refine ⟨((Below.refl _ _).alloc (Nat.le_refl _) _).alloc (by simp) _,blk_alloc (heap_alloc_new w _) _,?_⟩
 have:=heap_alloc_new (w.alloc (.cells a s)) (.cells b t)
 rwa [World.size_alloc] at this
set_option maxRecDepth 100000 in
theorem hnumber_any (kind ref lists n cnt:Nat)(sv ev:Value)(root:Int)(w:World)(hn:(n:Int)≤18446744073709551615)(hk1:1≤kind)(hk2:kind≤9) :
  Calls Tryz.prog 13 #[.agg #[sv,ev,.int .i64 root],.agg #[.int .u8 kind,.int .i64 ref,.int .i64 lists],.int .u64 n] w fun e w'=>e=.returned (.int .u64 (numP cnt kind n:Nat))∧Below w.heap.size w w':=by
 obtain ⟨hb,hz1,hz2⟩:=two_start w #[sv,ev,.int .i64 root] #[.int .u8 kind,.int .i64 ref,.int .i64 lists] 30 46
 obtain ⟨_,y0,y1,y2,_⟩:=blk3 hz2
 have HB:=Lib.hid hb
 have HN:=Lib.hid hn
 obtain ⟨p2,p3,p4,p5,p6,p7,p8,p9⟩:=number_plain cnt n
 have P2:=Lib.hid p2
 have P3:=Lib.hid p3
 have P4:=Lib.hid p4
 have P5:=Lib.hid p5
 have P6:=Lib.hid p6
 have P7:=Lib.hid p7
 have P8:=Lib.hid p8
 have P9:=Lib.hid p9
 have KS:=Lib.hid kSize_vals
 clear hb hz1 hz2 p2 p3 p4 p5 p6 p7 p8 p9
 have h':kind=1∨kind=2∨kind=3∨kind=4∨kind=5∨kind=6∨kind=7∨kind=8∨kind=9:=by omega
 clear hk1 hk2
 rcases h' with rfl|rfl|rfl|rfl|rfl|rfl|rfl|rfl|rfl
 · go_enter Tryz.func13,Tryz.ntmps13
   go_wp2_with fail
   refine (rsize_any _ _).mono ?_
   rintro e W1 ⟨rfl,rfl⟩
   rw [show kSize 1=1 from rfl]
   go_wp2
   go_ret
   exact ⟨ret_int (show (n:Int) % 2=((n % 2:Nat):Int) by omega),HB.out⟩
 · go_enter Tryz.func13,Tryz.ntmps13
   go_wp2_with fail
   refine (rsize_any _ _).mono ?_
   rintro e W1 ⟨rfl,rfl⟩
   rw [show kSize 2=1 from rfl]
   go_wp2_with fail
   refine (rsign_any _ _).mono ?_
   rintro e W1 ⟨rfl,rfl⟩
   rw [show kSign 2=true from rfl]
   have hv0:0≤(n:Int) % 256:=by omega
   have hv1:(n:Int) % 256≤18446744073709551615:=by have:=HN.out;omega
   go_wp2_with fail
   refine (rsigned_any ((n:Int) % 256) 1 _ hv0 hv1).mono ?_
   rintro e W1 ⟨rfl,rfl⟩
   go_wp2
   go_ret
   exact ⟨ret_int (by rw [P2.out,Int.toNat_of_nonneg (sgnOf_pos _ _ (by omega))];congr 1),HB.out⟩
 · go_enter Tryz.func13,Tryz.ntmps13
   go_wp2_with fail
   refine (rsize_any _ _).mono ?_
   rintro e W1 ⟨rfl,rfl⟩
   rw [show kSize 3=2 from rfl]
   go_wp2_with fail
   refine (rsign_any _ _).mono ?_
   rintro e W1 ⟨rfl,rfl⟩
   rw [show kSign 3=true from rfl]
   have hv0:0≤(n:Int) % 65536:=by omega
   have hv1:(n:Int) % 65536≤18446744073709551615:=by have:=HN.out;omega
   go_wp2_with fail
   refine (rsigned_any ((n:Int) % 65536) 2 _ hv0 hv1).mono ?_
   rintro e W1 ⟨rfl,rfl⟩
   go_wp2
   go_ret
   exact ⟨ret_int (by rw [P3.out,Int.toNat_of_nonneg (sgnOf_pos _ _ (by omega))];congr 1),HB.out⟩
 · go_enter Tryz.func13,Tryz.ntmps13
   go_wp2_with fail
   refine (rsize_any _ _).mono ?_
   rintro e W1 ⟨rfl,rfl⟩
   rw [show kSize 4=4 from rfl]
   go_wp2_with fail
   refine (rsign_any _ _).mono ?_
   rintro e W1 ⟨rfl,rfl⟩
   rw [show kSign 4=true from rfl]
   have hv0:0≤(n:Int) % 4294967296:=by omega
   have hv1:(n:Int) % 4294967296≤18446744073709551615:=by have:=HN.out;omega
   go_wp2_with fail
   refine (rsigned_any ((n:Int) % 4294967296) 4 _ hv0 hv1).mono ?_
   rintro e W1 ⟨rfl,rfl⟩
   go_wp2
   go_ret
   exact ⟨ret_int (by rw [P4.out,Int.toNat_of_nonneg (sgnOf_pos _ _ (by omega))];congr 1),HB.out⟩
 · go_enter Tryz.func13,Tryz.ntmps13
   go_wp2_with fail
   refine (rsize_any _ _).mono ?_
   rintro e W1 ⟨rfl,rfl⟩
   rw [show kSize 5=8 from rfl]
   go_wp2_with fail
   refine (rsign_any _ _).mono ?_
   rintro e W1 ⟨rfl,rfl⟩
   rw [show kSign 5=true from rfl]
   have hv0:0≤(n:Int):=by omega
   have hv1:(n:Int)≤18446744073709551615:=by have:=HN.out;omega
   go_wp2_with fail
   refine (rsigned_any ((n:Int)) 8 _ hv0 hv1).mono ?_
   rintro e W1 ⟨rfl,rfl⟩
   go_wp2
   go_ret
   exact ⟨ret_int (by rw [P5.out,Int.toNat_of_nonneg (sgnOf_pos _ _ (by omega))]),HB.out⟩
 · go_enter Tryz.func13,Tryz.ntmps13
   go_wp2_with fail
   refine (rsize_any _ _).mono ?_
   rintro e W1 ⟨rfl,rfl⟩
   rw [show kSize 6=1 from rfl]
   go_wp2_with fail
   refine (rsign_any _ _).mono ?_
   rintro e W1 ⟨rfl,rfl⟩
   rw [show kSign 6=false from rfl]
   go_wp2
   go_ret
   exact ⟨ret_int (by rw [P6.out];omega),HB.out⟩
 · go_enter Tryz.func13,Tryz.ntmps13
   go_wp2_with fail
   refine (rsize_any _ _).mono ?_
   rintro e W1 ⟨rfl,rfl⟩
   rw [show kSize 7=2 from rfl]
   go_wp2_with fail
   refine (rsign_any _ _).mono ?_
   rintro e W1 ⟨rfl,rfl⟩
   rw [show kSign 7=false from rfl]
   go_wp2
   go_ret
   exact ⟨ret_int (by rw [P7.out];omega),HB.out⟩
 · go_enter Tryz.func13,Tryz.ntmps13
   go_wp2_with fail
   refine (rsize_any _ _).mono ?_
   rintro e W1 ⟨rfl,rfl⟩
   rw [show kSize 8=4 from rfl]
   go_wp2_with fail
   refine (rsign_any _ _).mono ?_
   rintro e W1 ⟨rfl,rfl⟩
   rw [show kSign 8=false from rfl]
   go_wp2
   go_ret
   exact ⟨ret_int (by rw [P8.out];omega),HB.out⟩
 · go_enter Tryz.func13,Tryz.ntmps13
   go_wp2_with fail
   refine (rsize_any _ _).mono ?_
   rintro e W1 ⟨rfl,rfl⟩
   rw [show kSize 9=8 from rfl]
   go_wp2_with fail
   refine (rsign_any _ _).mono ?_
   rintro e W1 ⟨rfl,rfl⟩
   rw [show kSign 9=false from rfl]
   go_wp2
   go_ret
   exact ⟨ret_int (by rw [P9.out]),HB.out⟩
set_option maxRecDepth 100000 in
theorem numberE_any (ref lists n:Nat){b:Nat}{ss:List (SRec × Value)}{es:List (SCho × Value)}{sv ev:Value}(root:Int)(w:World)(h:SchRows b w ss es sv ev)(hr:ref<es.length)(hc:1≤es[ref].1.names.length)(hn:(n:Int)≤18446744073709551615) :
  Calls Tryz.prog 13 #[.agg #[sv,ev,.int .i64 root],.agg #[.int .u8 10,.int .i64 ref,.int .i64 lists],.int .u64 n] w fun e w'=>e=.returned (.int .u64 (numP es[ref].1.names.length 10 n:Nat))∧Below w.heap.size w w':=by
 obtain ⟨hb,hz1,hz2⟩:=two_start w #[sv,ev,.int .i64 root] #[.int .u8 10,.int .i64 ref,.int .i64 lists] 30 46
 obtain ⟨_,y0,y1,y2,_⟩:=blk3 hz2
 obtain ⟨_,z0,z1,z2,_⟩:=blk3 hz1
 have hf1:=row_few h.enums
 have hf2:=row_few (h.names _ (List.getElem_mem hr))
 obtain ⟨g,c,a,m,rfl,hc1,hg,x0,x1,_⟩:=(h.below hb).enum ref hr
 have HB:=Lib.hid hb
 have HN:=Lib.hid hn
 have HP:Hid (numP es[ref].1.names.length 10 n=n % es[ref].1.names.length):=Lib.hid rfl
 clear hb hz1 hz2 h y2 z0 z2 x0
 generalize es[ref].1.names.length=cnt at *
 have hw:IntKind.u64.wrap (cnt:Int)=cnt:=IntWalk.u64_in _ (by omega)
 have hq:(cnt:Int)≠0:=by omega
 have hq2:(0:Int)<cnt:=by omega
 go_enter Tryz.func13,Tryz.ntmps13
 go_wp2_with fail
 refine (rsize_any _ _).mono ?_
 rintro e W1 ⟨rfl,rfl⟩
 rw [show kSize 10=1 from rfl]
 go_wp2
 go_ret
 exact ⟨ret_int (by rw [HP.out];omega),HB.out⟩
end Go.Proofs.YtokhnoogkdlidaaGreatDoor
namespace Go.Proofs.YtokhnoogkdlidaaGreatDoor
open Go.ChangeShapes Go.WideShapes Go.ChangeAt Go.RowKit Go.Shelf
theorem bts_get {s:ByteArray}{i:Nat}(h:i<s.size):(bts s).getD i 0=(s[i].toNat:Int):=by
 simp [bts,List.getD,h]
 rfl
theorem bts_end {s:ByteArray}{i:Nat}(h:s.size≤i):(bts s).getD i 0=0:=by
 rw [List.getD,List.getElem?_eq_none (by rw [bts_length];exact h)]
 rfl
theorem at_any (s:ByteArray)(x:Int)(i:Nat)(w:World)(hx:x=i) :
  Calls Tryz.prog 82 #[.string s,.int .i64 x] w fun e w'=>e=.returned (.int .u8 ((bts s).getD i 0))∧w=w':=by
 subst hx
 by_cases hi:i<s.size
 · rw [bts_get hi]
   go_enter Tryz.func82,Tryz.ntmps82
   go_wp2
   go_ret
   exact ⟨rfl,rfl⟩
 · rw [bts_end (by omega)]
   go_enter Tryz.func82,Tryz.ntmps82
   go_wp2
   go_ret
   exact ⟨rfl,rfl⟩
theorem rdigit_any (c:Int)(w:World):Calls Tryz.prog 84 #[.int .u8 c] w fun e w'=>e=.returned (.bool (isDig c))∧w=w':=by
 by_cases h1:48≤c
 · by_cases h2:c≤57
   · have e:isDig c=true:=decide_eq_true ⟨h1,h2⟩
     rw [e]
     clear e
     go_enter Tryz.func84,Tryz.ntmps84
     go_wp2
     go_ret
     exact ⟨rfl,rfl⟩
   · have e:isDig c=false:=decide_eq_false (fun h=>h2 h.2)
     rw [e]
     clear e
     go_enter Tryz.func84,Tryz.ntmps84
     go_wp2
     go_ret
     exact ⟨rfl,rfl⟩
 · have e:isDig c=false:=decide_eq_false (fun h=>h1 h.1)
   rw [e]
   clear e
   go_enter Tryz.func84,Tryz.ntmps84
   go_wp2
   go_ret
   exact ⟨rfl,rfl⟩
theorem rletter_any (c:Int)(w:World):Calls Tryz.prog 83 #[.int .u8 c] w fun e w'=>e=.returned (.bool (isLet c))∧w=w':=by
 by_cases h0:c=95
 · subst h0
   go_enter Tryz.func83,Tryz.ntmps83
   go_wp2
   go_ret
   exact ⟨rfl,rfl⟩
 have t0:(c==95)=false:=by simp [h0]
 by_cases h1:65≤c
 · by_cases h2:c≤90
   · have e:isLet c=true:=by unfold isLet;exact decide_eq_true (by omega)
     rw [e]
     clear e
     clear h0
     go_enter Tryz.func83,Tryz.ntmps83
     go_wp2
     go_ret
     exact ⟨rfl,rfl⟩
   · by_cases h3:97≤c
     · by_cases h4:c≤122
       · have e:isLet c=true:=by unfold isLet;exact decide_eq_true (by omega)
         rw [e]
         clear e
         clear h0
         go_enter Tryz.func83,Tryz.ntmps83
         go_wp2
         go_ret
         exact ⟨rfl,rfl⟩
       · have e:isLet c=false:=by unfold isLet;exact decide_eq_false (by omega)
         rw [e]
         clear e
         clear h0
         go_enter Tryz.func83,Tryz.ntmps83
         go_wp2
         go_ret
         exact ⟨rfl,rfl⟩
     · have e:isLet c=false:=by unfold isLet;exact decide_eq_false (by omega)
       rw [e]
       clear e
       clear h0
       go_enter Tryz.func83,Tryz.ntmps83
       go_wp2
       go_ret
       exact ⟨rfl,rfl⟩
 · have h3:¬97≤c:=by omega
   have e:isLet c=false:=by unfold isLet;exact decide_eq_false (by omega)
   rw [e]
   clear e
   clear h0
   go_enter Tryz.func83,Tryz.ntmps83
   go_wp2
   go_ret
   exact ⟨rfl,rfl⟩
end Go.Proofs.YtokhnoogkdlidaaGreatDoor
namespace Go.Proofs.YtokhnoogkdlidaaGreatDoor
open Go.RowKit
def decD:Nat→Nat→List Int
 | 0,n=>[48+((n % 10:Nat):Int)]
 | f+1,n=>if n≤9 then [48+((n % 10:Nat):Int)] else decD f (n / 10)++[48+((n % 10:Nat):Int)]
def decDigs (n:Nat):List Int:=decD 20 n
theorem decD_fuel:∀ (f g n:Nat),n<10 ^ (f+1)→n<10 ^ (g+1)→decD f n=decD g n
 | 0,0,_,_,_=>rfl
 | 0,g+1,n,hf,_=>by
  simp only [decD]
  rw [if_pos (by omega)]
 | f+1,0,n,_,hg=>by
  simp only [decD]
  rw [if_pos (by omega)]
 | f+1,g+1,n,hf,hg=>by
  simp only [decD]
  by_cases h:n≤9
  · rw [if_pos h,if_pos h]
  · rw [if_neg h,if_neg h,decD_fuel f g (n / 10) (by rw [Nat.pow_succ] at hf;omega) (by rw [Nat.pow_succ] at hg;omega)]
theorem decDigs_small {n:Nat}(h:n≤9):decDigs n=[48+(n:Int)]:=by
 unfold decDigs
 simp only [decD]
 rw [if_pos h,Nat.mod_eq_of_lt (by omega)]
theorem ten20:maxU<10 ^ (19+1):=by decide
theorem ten21:10 ^ (20+1)=10 * 10 ^ (19+1):=by decide
theorem decDigs_19 {n:Nat}(hn:n≤maxU):decDigs n=decD 19 n:=by
 unfold decDigs
 have h1:=ten20
 have h2:=ten21
 exact decD_fuel 20 19 n (by omega) (by omega)
theorem decDigs_step {n:Nat}(h:9<n)(hn:n≤maxU):decDigs n=decDigs (n / 10)++[48+((n % 10:Nat):Int)]:=by
 rw [decDigs_19 (show n / 10≤maxU by omega)]
 unfold decDigs
 rw [show decD 20 n=if n≤9 then [48+((n % 10:Nat):Int)] else decD 19 (n / 10)++[48+((n % 10:Nat):Int)] from rfl]
 rw [if_neg (by omega)]
theorem decD_digit:∀ (f n:Nat) (c:Int),c ∈ decD f n→48≤c∧c≤57
 | 0,n,c,h=>by
  simp only [decD,List.mem_singleton] at h
  omega
 | f+1,n,c,h=>by
  simp only [decD] at h
  split at h
  · simp only [List.mem_singleton] at h
    omega
  · rw [List.mem_append] at h
    rcases h with h|h
    · exact decD_digit f _ c h
    · simp only [List.mem_singleton] at h
      omega
theorem decD_length:∀ (f n:Nat),1≤(decD f n).length∧(decD f n).length≤f+1
 | 0,n=>by simp [decD]
 | f+1,n=>by
  simp only [decD]
  split
  · simp
  · have:=decD_length f (n / 10)
    simp
    omega
theorem decD_value:∀ (f n:Nat),n<10 ^ (f+1)→decF 0 (decD f n)=n
 | 0,n,h=>by
  simp only [decD]
  rw [decF_cons,decF_nil]
  unfold dstep
  omega
 | f+1,n,h=>by
  simp only [decD]
  split
  · rw [decF_cons,decF_nil]
    unfold dstep
    omega
  · rw [decF_append,decD_value f (n / 10) (by rw [Nat.pow_succ] at h;omega),decF_cons,decF_nil]
    unfold dstep
    omega
theorem getD_append_left' (a b:List Int)(h:1≤a.length):(a++b).getD 0 0=a.getD 0 0:=by
 rw [List.getD,List.getD,List.getElem?_append_left (by omega)]
theorem decD_head:∀ (f n:Nat),n<10 ^ (f+1)→1≤n→(decD f n).getD 0 0≠48
 | 0,n,h,h1=>by
  simp only [decD]
  have:(10:Nat) ^ (0+1)=10:=rfl
  simp
  omega
 | f+1,n,h,h1=>by
  simp only [decD]
  split
  · simp
    omega
  · rw [getD_append_left' _ _ (decD_length f _).1]
    exact decD_head f (n / 10) (by rw [Nat.pow_succ] at h;omega) (by omega)
theorem minus_digs (n:Nat):stA (45::decDigs n) (isC 45) 0=true∧digs (45::decDigs n)=decDigs n:=by
 have h:stA (45::decDigs n) (isC 45) 0=true:=rfl
 refine ⟨h,?_⟩
 unfold digs
 rw [if_pos h]
 rfl
section
variable {n:Nat} (hn:n≤maxU)
include hn
theorem decDigs_digit (c:Int)(h:c ∈ decDigs n):48≤c∧c≤57:=by
 rw [decDigs_19 hn] at h
 exact decD_digit 19 n c h
theorem decDigs_length:1≤(decDigs n).length∧(decDigs n).length≤20:=by
 rw [decDigs_19 hn]
 exact decD_length 19 n
theorem decDigs_value:decF 0 (decDigs n)=n:=by
 rw [decDigs_19 hn]
 exact decD_value 19 n (by have:=ten20;omega)
theorem decDigs_head (h1:1≤n):(decDigs n).getD 0 0≠48:=by
 rw [decDigs_19 hn]
 exact decD_head 19 n (by have:=ten20;omega) h1
theorem decDigs_get (j:Nat)(hj:j<(decDigs n).length):isDig ((decDigs n).getD j 0)=true:=by
 have h:=decDigs_digit hn ((decDigs n).getD j 0) (by rw [List.getD,List.getElem?_eq_getElem hj];exact List.getElem_mem _)
 exact decide_eq_true h
theorem decDigs_plain:stA (decDigs n) (isC 45) 0=false:=by
 have hl:=decDigs_length hn
 rw [stA_of (by omega)]
 have h:=of_decide_eq_true (show decide (48≤(decDigs n).getD 0 0∧(decDigs n).getD 0 0≤57)=true from decDigs_get hn 0 (by omega))
 exact decide_eq_false (by omega)
theorem decDigs_lead (h:1<(decDigs n).length):(decDigs n).getD 0 0≠48:=by
 rcases Nat.eq_zero_or_pos n with h0|h0
 · subst h0
   exact absurd h (by decide)
 · exact decDigs_head hn h0
theorem good_plain:goodN (decDigs n)=true:=by
 have hd:digs (decDigs n)=decDigs n:=by
  unfold digs
  rw [if_neg (by rw [decDigs_plain hn];decide)]
 have hl:=decDigs_length hn
 refine (goodN_iff _).2 ⟨by rw [hd];exact hl.1,by rw [hd];exact hl.2,by rw [hd];exact fun h=>decDigs_lead hn h.1 h.2,?_,by rw [hd];exact decDigs_get hn⟩
 intro he
 have:=decDigs_digit hn 45 (by rw [he];simp)
 omega
theorem good_minus (h1:1≤n):goodN (45::decDigs n)=true:=by
 obtain ⟨_,hd⟩:=minus_digs n
 have hl:=decDigs_length hn
 refine (goodN_iff _).2 ⟨by rw [hd];exact hl.1,by rw [hd];exact hl.2,by rw [hd];exact fun h=>decDigs_lead hn h.1 h.2,?_,by rw [hd];exact decDigs_get hn⟩
 intro he
 have h2:decDigs n=[48]:=by injection he
 exact decDigs_head hn h1 (by rw [h2];rfl)
theorem numV_dec (size:Int)(hs:sizedB size=true):numV (decDigs n) size false=if (n:Int)<span size then some n else none:=by
 have hd:digs (decDigs n)=decDigs n:=by
  unfold digs
  rw [if_neg (by rw [decDigs_plain hn];decide)]
 unfold numV
 rw [hd,decDigs_value hn,decDigs_plain hn,good_plain hn,hs]
 have hf:fitsB (n:Int) false size false=decide ((n:Int)<span size):=by
  unfold fitsB
  rw [if_neg (by decide),Bool.not_false,Bool.true_and]
 rw [hf]
 by_cases h:(n:Int)<span size
 · rw [if_pos ⟨rfl,rfl,hn,decide_eq_true h⟩,if_pos h,if_neg (by decide)]
 · rw [if_neg (fun hh=>by have:=hh.2.2.2;rw [decide_eq_false h] at this;cases this),if_neg h]
theorem numV_sig (size:Int)(hs:sizedB size=true):numV (decDigs n) size true=if (n:Int)<span size / 2 then some n else none:=by
 have hd:digs (decDigs n)=decDigs n:=by
  unfold digs
  rw [if_neg (by rw [decDigs_plain hn];decide)]
 unfold numV
 rw [hd,decDigs_value hn,decDigs_plain hn,good_plain hn,hs]
 have hf:fitsB (n:Int) false size true=decide ((n:Int)<span size / 2):=by
  unfold fitsB
  rw [if_pos rfl,Bool.false_and,Bool.or_false]
 rw [hf]
 by_cases h:(n:Int)<span size / 2
 · rw [if_pos ⟨rfl,rfl,hn,decide_eq_true h⟩,if_pos h,if_neg (by decide)]
 · rw [if_neg (fun hh=>by have:=hh.2.2.2;rw [decide_eq_false h] at this;cases this),if_neg h]
theorem numV_neg (h1:1≤n)(size:Int)(hs:sizedB size=true):numV (45::decDigs n) size true=if (n:Int)≤span size / 2 then some ((18446744073709551616-n) % 18446744073709551616) else none:=by
 obtain ⟨hm,hd⟩:=minus_digs n
 unfold numV
 rw [hd,decDigs_value hn,hm,good_minus hn h1,hs]
 have hf:fitsB (n:Int) true size true=decide ((n:Int)≤span size / 2):=by
  unfold fitsB
  rw [if_pos rfl,Bool.true_and,Bool.eq_iff_iff,Bool.or_eq_true,decide_eq_true_iff,decide_eq_true_iff,decide_eq_true_iff]
  omega
 rw [hf]
 by_cases h:(n:Int)≤span size / 2
 · rw [if_pos ⟨rfl,rfl,hn,decide_eq_true h⟩,if_pos h,if_pos rfl]
 · rw [if_neg (fun hh=>by have:=hh.2.2.2;rw [decide_eq_false h] at this;cases this),if_neg h]
end
end Go.Proofs.YtokhnoogkdlidaaGreatDoor
namespace Go.Proofs.YtokhnoogkdlidaaGreatDoor
open Go.ChangeShapes Go.WideShapes Go.ChangeAt Go.RowKit Go.Shelf
theorem bts_append (a b:ByteArray):bts (a++b)=bts a++bts b:=by simp [bts]
theorem bts_strOf (zs:List Int)(h:∀ z ∈ zs,0≤z∧z≤255):bts (strOfNums zs)=zs:=by
 unfold bts
 rw [strOfNums_data,List.map_map]
 conv=>rhs;rw [←List.map_id zs]
 refine List.map_congr_left fun z hz=>?_
 have:=h z hz
 simp only [Function.comp,UInt8.toNat_ofNat',id]
 omega
def StrIs (P:ByteArray→Prop)(w:World)(e:Ending)(w':World):Prop:=∃ s,e=.returned (.string s)∧P s∧Below w.heap.size w w'
set_option maxRecDepth 100000 in
theorem decimal_plain (n:Nat)(w:World)(hn:(n:Int)≤18446744073709551615) :
  Calls Tryz.prog 59 #[.int .u64 n,.bool false] w (StrIs (fun s=>bts s=decDigs n) w):=by
 have kc:=one_str
 have HN:=Lib.hid hn
 go_enter Tryz.func59,Tryz.ntmps59
 go_wp2
 go_loopw [0,5] (fun m s wr=>Below w.heap.size w wr∧∃ (k:Nat) (b:ByteArray),(k:Int)≤18446744073709551615∧m=.int .u64 k∧s=.string b∧decDigs n=decDigs k++bts b) (fun m _ _=>(intOf m).toNat)
 case atStart=>exact ⟨Below.refl _ _,n,_,HN.out,rfl,rfl,(List.append_nil _).symm⟩
 case round =>
  obtain ⟨hb,k,b,hk,rfl,rfl,hd⟩:=hrel
  have HB:=Lib.hid hb
  have HD:=Lib.hid hd
  clear hb hd
  have hbl:b.size≤20:=by
   have h1:=congrArg List.length HD.out
   have h2:=(decDigs_length (n:=n) (Int.ofNat_le.1 HN.out)).2
   rw [List.length_append,bts_length] at h1
   omega
  by_cases h9:(9:Int)<k
  · have HS:=Lib.hid (decDigs_step (n:=k) (by omega) (Int.ofNat_le.1 hk))
    have HZ:=Lib.hid (bts_strOf [48+(k:Int) % 10] (by intro z hz;simp only [List.mem_singleton] at hz;omega))
    have hsz:¬9223372036854775807<(strOfNums [48+(k:Int) % 10]).size+b.size:=by rw [strOfNums_size];simp;omega
    go_wp2
    go_roundw
    case rel=>exact ⟨HB.out.alloc HB.out.size _,k / 10,_,by omega,congrArg (Value.int .u64) (by omega),rfl,by rw [HD.out,HS.out,bts_append,HZ.out,List.append_assoc];congr 3⟩
    case measure=>simp [intOf];omega
  · have HS:=Lib.hid (decDigs_small (n:=k) (by omega))
    have HZ:=Lib.hid (bts_strOf [48+(k:Int)] (by intro z hz;simp only [List.mem_singleton] at hz;omega))
    have hsz:¬9223372036854775807<(strOfNums [48+(k:Int)]).size+b.size:=by rw [strOfNums_size];simp;omega
    go_wp2
    go_ret
    exact ⟨_,rfl,show bts _=_ by rw [bts_append,HZ.out,HD.out,HS.out],HB.out.alloc HB.out.size _⟩
set_option maxRecDepth 100000 in
theorem decimal_pos (n:Nat)(w:World)(hn:(n:Int)≤9223372036854775807) :
  Calls Tryz.prog 59 #[.int .u64 n,.bool true] w (StrIs (fun s=>bts s=decDigs n) w):=by
 have kc:=one_str
 have HN:=Lib.hid (show (n:Int)≤18446744073709551615 by omega)
 have t0:((n:Int) / 9223372036854775808==1)=false:=by simp;omega
 go_enter Tryz.func59,Tryz.ntmps59
 go_wp2
 go_loopw [0,5] (fun m s wr=>Below w.heap.size w wr∧∃ (k:Nat) (b:ByteArray),(k:Int)≤18446744073709551615∧m=.int .u64 k∧s=.string b∧decDigs n=decDigs k++bts b) (fun m _ _=>(intOf m).toNat)
 case atStart=>exact ⟨Below.refl _ _,n,_,HN.out,rfl,rfl,(List.append_nil _).symm⟩
 case round =>
  obtain ⟨hb,k,b,hk,rfl,rfl,hd⟩:=hrel
  have HB:=Lib.hid hb
  have HD:=Lib.hid hd
  clear hb hd
  have hbl:b.size≤20:=by
   have h1:=congrArg List.length HD.out
   have h2:=(decDigs_length (n:=n) (Int.ofNat_le.1 HN.out)).2
   rw [List.length_append,bts_length] at h1
   omega
  by_cases h9:(9:Int)<k
  · have HS:=Lib.hid (decDigs_step (n:=k) (by omega) (Int.ofNat_le.1 hk))
    have HZ:=Lib.hid (bts_strOf [48+(k:Int) % 10] (by intro z hz;simp only [List.mem_singleton] at hz;omega))
    have hsz:¬9223372036854775807<(strOfNums [48+(k:Int) % 10]).size+b.size:=by rw [strOfNums_size];simp;omega
    go_wp2
    go_roundw
    case rel=>exact ⟨HB.out.alloc HB.out.size _,k / 10,_,by omega,congrArg (Value.int .u64) (by omega),rfl,by rw [HD.out,HS.out,bts_append,HZ.out,List.append_assoc];congr 3⟩
    case measure=>simp [intOf];omega
  · have HS:=Lib.hid (decDigs_small (n:=k) (by omega))
    have HZ:=Lib.hid (bts_strOf [48+(k:Int)] (by intro z hz;simp only [List.mem_singleton] at hz;omega))
    have hsz:¬9223372036854775807<(strOfNums [48+(k:Int)]).size+b.size:=by rw [strOfNums_size];simp;omega
    go_wp2
    go_ret
    exact ⟨_,rfl,show bts _=_ by rw [bts_append,HZ.out,HD.out,HS.out],HB.out.alloc HB.out.size _⟩
theorem decimal_neg (n:Nat)(w:World)(h1:(9223372036854775808:Int)≤n)(h2:(n:Int)≤18446744073709551615) :
  Calls Tryz.prog 59 #[.int .u64 n,.bool true] w (StrIs (fun s=>bts s=45::decDigs (18446744073709551616-n)) w):=by
 have t0:((n:Int) / 9223372036854775808==1)=true:=by simp;omega
 have HX:=Lib.hid (xor_max n h2)
 have HM:=Lib.hid (Nat.mod_eq_of_lt (show 18446744073709551616-n<18446744073709551616 by omega))
 have hv:((18446744073709551616-n:Nat):Int)≤18446744073709551615:=by omega
 generalize 18446744073709551616-n=v at HX HM hv ⊢
 have HV:=Lib.hid hv
 go_enter Tryz.func59,Tryz.ntmps59
 go_wp2_with fail
 rw [HX.out,HM.out]
 refine (decimal_plain v w HV.out).mono ?_
 rintro e W1 ⟨s,rfl,hs,hb⟩
 have HB:=Lib.hid hb
 have HS:=Lib.hid hs
 have hl:s.size≤20:=by
  have h3:=congrArg List.length hs
  have h4:=(decDigs_length (n:=v) (Int.ofNat_le.1 hv)).2
  rw [bts_length] at h3
  omega
 clear hb hs
 go_wp2
 go_ret
 exact ⟨_,rfl,(show bts _=_ by rw [bts_append,show bts s=decDigs v from HS.out];rfl),HB.out⟩
end Go.Proofs.YtokhnoogkdlidaaGreatDoor
namespace Go.Proofs.YtokhnoogkdlidaaGreatDoor
open Go.ChangeShapes Go.WideShapes Go.ChangeAt Go.RowKit
theorem wsign_any (n:Int)(w:World) :
  Calls Tryz.prog 113 #[.int .u8 n] w fun e w'=>e=.returned (.bool (kSign n))∧w=w':=by
 by_cases h1:2≤n
 · by_cases h2:n≤5
   · rw [show kSign n=true from decide_eq_true ⟨h1,h2⟩]
     go_enter Tryz.func113,Tryz.ntmps113
     go_wp2
     go_ret
     exact ⟨rfl,rfl⟩
   · rw [show kSign n=false from decide_eq_false (fun h=>h2 h.2)]
     go_enter Tryz.func113,Tryz.ntmps113
     go_wp2
     go_ret
     exact ⟨rfl,rfl⟩
 · rw [show kSign n=false from decide_eq_false (fun h=>h1 h.1)]
   go_enter Tryz.func113,Tryz.ntmps113
   go_wp2
   go_ret
   exact ⟨rfl,rfl⟩
end Go.Proofs.YtokhnoogkdlidaaGreatDoor
namespace Go.Proofs.YtokhnoogkdlidaaGreatDoor
open Go.ChangeShapes Go.WideShapes Go.ChangeAt Go.RowKit Go.Shelf
theorem IsPlan.below {w W:World}{p:Plan}{a0 a1:Option Addr}{n0 e0 n1 c1:Nat}(h:IsPlan w p a0 n0 e0 a1 n1 c1)(hb:Below w.heap.size w W):IsPlan W p a0 n0 e0 a1 n1 c1:=by
 refine ⟨h.e_len,h.s_len,h.e_cap,h.s_cap,h.rt,fun j hj=>?_,fun r hr=>?_⟩
 · obtain ⟨h1,b,off,h2,h3,h4⟩:=h.e_at j hj
   exact ⟨h1,b,off,h2,Nat.lt_of_lt_of_le h3 hb.size,(hb.cell (p:=⟨b,off+j,none⟩) h3).trans h4⟩
 · obtain ⟨b,off,a,n,c,h2,h3,h4,h5,h6,h7,h8⟩:=h.s_at r hr
   refine ⟨b,off,a,n,c,h2,Nat.lt_of_lt_of_le h3 hb.size,(hb.cell (p:=⟨b,off+r,none⟩) h3).trans h4,h5,h6,h7,fun k hk=>?_⟩
   obtain ⟨b',off',f,g1,g2,g3,x0,x1,x2,x3,x4,q⟩:=h8 k hk
   exact ⟨b',off',f,g1,g2,Nat.lt_of_lt_of_le g3 hb.size,(hb.cell (p:=⟨b',off'+k * 5,none⟩) g3).trans x0,(hb.cell (p:=⟨b',off'+k * 5+1,none⟩) g3).trans x1,(hb.cell (p:=⟨b',off'+k * 5+2,none⟩) g3).trans x2,(hb.cell (p:=⟨b',off'+k * 5+3,none⟩) g3).trans x3,(hb.cell (p:=⟨b',off'+k * 5+4,none⟩) g3).trans x4,q⟩
theorem blk4p {w:World}{g:Nat}{x y z u:Value}{t:TypeId}(h:w.heap[g]?=some (.cells #[x,y,z,u] t (0,0))) :
  g<w.heap.size∧w.cell? ⟨g,0,none⟩=some x∧w.cell? ⟨g,1,none⟩=some y∧w.cell? ⟨g,2,none⟩=some z∧w.cell? ⟨g,3,none⟩=some u:=
 ⟨blk_lt h,(blk_cell h 0).trans rfl,(blk_cell h 1).trans rfl,(blk_cell h 2).trans rfl,(blk_cell h 3).trans rfl⟩
end Go.Proofs.YtokhnoogkdlidaaGreatDoor
