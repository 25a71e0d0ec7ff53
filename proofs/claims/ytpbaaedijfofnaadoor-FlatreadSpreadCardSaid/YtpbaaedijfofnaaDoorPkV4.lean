/-
  The frame of the hand's Made where only some of its slots are known, and written out; the loops' bodies, out of the program's own translation. No run stands in this text. (Made by program: wip/tools/gen-madef.py.)
-/
import Derived.Test.YtpbaaedijfofnaaDoorPkV2
namespace Go.Proofs.YtpbaaedijfofnaaDoor
open Go.ChangeShapes Go.WideShapes Go.ChangeAt Go.RowKit Go.Shelf
set_option maxRecDepth 100000 in
theorem isnum_any (kind ref lists:Nat)(w:World)(hk:kind≤255) :
  Calls Tryd.prog 45 #[.agg #[.int .u8 kind,.int .i64 ref,.int .i64 lists]] w fun e w'=>e=.returned (.bool (isNumP kind lists))∧Below w.heap.size w w':=by
 have h0:=heap_alloc_new w (.cells #[.int .u8 kind,.int .i64 ref,.int .i64 lists] 62)
 have HB:=Lib.hid ((Below.refl w.heap.size w).alloc (Nat.le_refl _) (.cells #[.int .u8 kind,.int .i64 ref,.int .i64 lists] 62))
 obtain ⟨_,x0,x1,x2,_⟩:=blk3 h0
 clear h0
 have hb1:(kind:Int)≤255:=by omega
 by_cases hl:lists=0
 · have HS:Hid (isNumP kind lists=decide (0<kSize kind)):=Lib.hid (by unfold isNumP;rw [decide_eq_true hl,Bool.true_and])
   subst hl
   go_enter Tryd.func45,Tryd.ntmps45
   go_wp2_with fail
   refine (rsize_any _ _).mono ?_
   rintro e W1 ⟨rfl,rfl⟩
   generalize kSize (kind:Int)=z at *
   by_cases hs:0<z
   · go_wp2
     go_ret
     exact ⟨ret_bool (HS.out.trans (decide_eq_true hs)).symm,HB.out⟩
   · go_wp2
     go_ret
     exact ⟨ret_bool HS.out.symm,HB.out⟩
 · have HS:Hid (isNumP kind lists=false):=Lib.hid (by unfold isNumP;rw [decide_eq_false hl,Bool.false_and])
   have hl1:((lists:Int)==0)=false:=by simp;omega
   clear hl
   go_enter Tryd.func45,Tryd.ntmps45
   go_wp2
   go_ret
   exact ⟨ret_bool HS.out.symm,HB.out⟩
theorem kSize_vals:kSize 1=1∧kSize 2=1∧kSize 3=2∧kSize 4=4∧kSize 5=8∧kSize 6=1∧kSize 7=2∧kSize 8=4∧kSize 9=8∧kSize 10=1:=by decide
theorem numP_low (cnt kind n s:Nat)(h1:kind≠1)(h10:kind≠10)(hs:kSize kind=s)(h8:(s:Int)<8):numP cnt kind n=if kSign kind=true then (sgnOf ((n % 2 ^ (8 * s):Nat):Int) s).toNat else n % 2 ^ (8 * s):=by
 unfold numP
 rw [if_neg h1,if_neg h10]
 simp only [hs]
 rw [if_pos h8,Int.toNat_natCast]
theorem numP_high (cnt kind n:Nat)(h1:kind≠1)(h10:kind≠10)(hs:kSize kind=8):numP cnt kind n=if kSign kind=true then (sgnOf (n:Int) 8).toNat else n:=by
 unfold numP
 rw [if_neg h1,if_neg h10]
 simp only [hs,Int.lt_irrefl,if_false]
theorem number_plain (cnt n:Nat):numP cnt 2 n=(sgnOf ((n % 256:Nat):Int) 1).toNat∧numP cnt 3 n=(sgnOf ((n % 65536:Nat):Int) 2).toNat∧numP cnt 4 n=(sgnOf ((n % 4294967296:Nat):Int) 4).toNat∧numP cnt 5 n=(sgnOf (n:Int) 8).toNat ∧
  numP cnt 6 n=n % 256∧numP cnt 7 n=n % 65536∧numP cnt 8 n=n % 4294967296∧numP cnt 9 n=n:=by
 have e1:(2:Nat) ^ (8 * 1)=256:=by decide
 have e2:(2:Nat) ^ (8 * 2)=65536:=by decide
 have e4:(2:Nat) ^ (8 * 4)=4294967296:=by decide
 have a2:=numP_low cnt 2 n 1 (by decide) (by decide) rfl (by decide)
 have a3:=numP_low cnt 3 n 2 (by decide) (by decide) rfl (by decide)
 have a4:=numP_low cnt 4 n 4 (by decide) (by decide) rfl (by decide)
 have a6:=numP_low cnt 6 n 1 (by decide) (by decide) rfl (by decide)
 have a7:=numP_low cnt 7 n 2 (by decide) (by decide) rfl (by decide)
 have a8:=numP_low cnt 8 n 4 (by decide) (by decide) rfl (by decide)
 have a5:=numP_high cnt 5 n (by decide) (by decide) rfl
 have a9:=numP_high cnt 9 n (by decide) (by decide) rfl
 rw [e1] at a2 a6
 rw [e2] at a3 a7
 rw [e4] at a4 a8
 refine ⟨a2.trans (if_pos rfl),a3.trans (if_pos rfl),a4.trans (if_pos rfl),a5.trans (if_pos rfl),a6.trans (if_neg (by decide)),a7.trans (if_neg (by decide)),a8.trans (if_neg (by decide)),a9.trans (if_neg (by decide))⟩
theorem sgn_pos (m n:Int)(h1:0<m)(h2:m≤2147483648):0≤sgn m n:=by
 unfold sgn
 have:=Int.emod_nonneg n (show (2 * m)≠0 by omega)
 split<;>omega
theorem sgnOf_pos (n s:Int)(h:0≤n):0≤sgnOf n s:=by
 unfold sgnOf
 split
 · exact sgn_pos _ _ (by decide) (by decide)
 · split
   · exact sgn_pos _ _ (by decide) (by decide)
   · split
     · exact sgn_pos _ _ (by decide) (by decide)
     · exact h
theorem two_start (w:World)(a b:Array Value)(s t:TypeId):Below w.heap.size w ((w.alloc (.cells a s)).alloc (.cells b t))∧((w.alloc (.cells a s)).alloc (.cells b t)).heap[w.heap.size]?=some (.cells a s (0,0))∧((w.alloc (.cells a s)).alloc (.cells b t)).heap[w.heap.size+1]?=some (.cells b t (0,0)):=by
 refine ⟨((Below.refl _ _).alloc (Nat.le_refl _) _).alloc (by simp) _,blk_alloc (heap_alloc_new w _) _,?_⟩
 have:=heap_alloc_new (w.alloc (.cells a s)) (.cells b t)
 rwa [World.size_alloc] at this
set_option maxRecDepth 100000 in
theorem hnumber_any (kind ref lists n cnt:Nat)(sv ev:Value)(root:Int)(w:World)(hn:(n:Int)≤18446744073709551615)(hk1:1≤kind)(hk2:kind≤9) :
  Calls Tryd.prog 46 #[.agg #[sv,ev,.int .i64 root],.agg #[.int .u8 kind,.int .i64 ref,.int .i64 lists],.int .u64 n] w fun e w'=>e=.returned (.int .u64 (numP cnt kind n:Nat))∧Below w.heap.size w w':=by
 obtain ⟨hb,hz1,hz2⟩:=two_start w #[sv,ev,.int .i64 root] #[.int .u8 kind,.int .i64 ref,.int .i64 lists] 30 62
 obtain ⟨_,y0,y1,y2,_⟩:=blk3 hz2
 have HB:=Lib.hid hb
 have HN:=Lib.hid hn
 obtain ⟨p2,p3,p4,p5,p6,p7,p8,p9⟩:=number_plain cnt n
 have P2:=Lib.hid p2
 have P3:=Lib.hid p3
 have P4:=Lib.hid p4
 have P5:=Lib.hid p5
 have P6:=Lib.hid p6
 have P7:=Lib.hid p7
 have P8:=Lib.hid p8
 have P9:=Lib.hid p9
 have KS:=Lib.hid kSize_vals
 clear hb hz1 hz2 p2 p3 p4 p5 p6 p7 p8 p9
 have h':kind=1∨kind=2∨kind=3∨kind=4∨kind=5∨kind=6∨kind=7∨kind=8∨kind=9:=by omega
 clear hk1 hk2
 rcases h' with rfl|rfl|rfl|rfl|rfl|rfl|rfl|rfl|rfl
 · go_enter Tryd.func46,Tryd.ntmps46
   go_wp2_with fail
   refine (rsize_any _ _).mono ?_
   rintro e W1 ⟨rfl,rfl⟩
   rw [show kSize 1=1 from rfl]
   go_wp2
   go_ret
   exact ⟨ret_int (show (n:Int) % 2=((n % 2:Nat):Int) by omega),HB.out⟩
 · go_enter Tryd.func46,Tryd.ntmps46
   go_wp2_with fail
   refine (rsize_any _ _).mono ?_
   rintro e W1 ⟨rfl,rfl⟩
   rw [show kSize 2=1 from rfl]
   go_wp2_with fail
   refine (rsign_any _ _).mono ?_
   rintro e W1 ⟨rfl,rfl⟩
   rw [show kSign 2=true from rfl]
   have hv0:0≤(n:Int) % 256:=by omega
   have hv1:(n:Int) % 256≤18446744073709551615:=by have:=HN.out;omega
   go_wp2_with fail
   refine (rsigned_any ((n:Int) % 256) 1 _ hv0 hv1).mono ?_
   rintro e W1 ⟨rfl,rfl⟩
   go_wp2
   go_ret
   exact ⟨ret_int (by rw [P2.out,Int.toNat_of_nonneg (sgnOf_pos _ _ (by omega))];congr 1),HB.out⟩
 · go_enter Tryd.func46,Tryd.ntmps46
   go_wp2_with fail
   refine (rsize_any _ _).mono ?_
   rintro e W1 ⟨rfl,rfl⟩
   rw [show kSize 3=2 from rfl]
   go_wp2_with fail
   refine (rsign_any _ _).mono ?_
   rintro e W1 ⟨rfl,rfl⟩
   rw [show kSign 3=true from rfl]
   have hv0:0≤(n:Int) % 65536:=by omega
   have hv1:(n:Int) % 65536≤18446744073709551615:=by have:=HN.out;omega
   go_wp2_with fail
   refine (rsigned_any ((n:Int) % 65536) 2 _ hv0 hv1).mono ?_
   rintro e W1 ⟨rfl,rfl⟩
   go_wp2
   go_ret
   exact ⟨ret_int (by rw [P3.out,Int.toNat_of_nonneg (sgnOf_pos _ _ (by omega))];congr 1),HB.out⟩
 · go_enter Tryd.func46,Tryd.ntmps46
   go_wp2_with fail
   refine (rsize_any _ _).mono ?_
   rintro e W1 ⟨rfl,rfl⟩
   rw [show kSize 4=4 from rfl]
   go_wp2_with fail
   refine (rsign_any _ _).mono ?_
   rintro e W1 ⟨rfl,rfl⟩
   rw [show kSign 4=true from rfl]
   have hv0:0≤(n:Int) % 4294967296:=by omega
   have hv1:(n:Int) % 4294967296≤18446744073709551615:=by have:=HN.out;omega
   go_wp2_with fail
   refine (rsigned_any ((n:Int) % 4294967296) 4 _ hv0 hv1).mono ?_
   rintro e W1 ⟨rfl,rfl⟩
   go_wp2
   go_ret
   exact ⟨ret_int (by rw [P4.out,Int.toNat_of_nonneg (sgnOf_pos _ _ (by omega))];congr 1),HB.out⟩
 · go_enter Tryd.func46,Tryd.ntmps46
   go_wp2_with fail
   refine (rsize_any _ _).mono ?_
   rintro e W1 ⟨rfl,rfl⟩
   rw [show kSize 5=8 from rfl]
   go_wp2_with fail
   refine (rsign_any _ _).mono ?_
   rintro e W1 ⟨rfl,rfl⟩
   rw [show kSign 5=true from rfl]
   have hv0:0≤(n:Int):=by omega
   have hv1:(n:Int)≤18446744073709551615:=by have:=HN.out;omega
   go_wp2_with fail
   refine (rsigned_any ((n:Int)) 8 _ hv0 hv1).mono ?_
   rintro e W1 ⟨rfl,rfl⟩
   go_wp2
   go_ret
   exact ⟨ret_int (by rw [P5.out,Int.toNat_of_nonneg (sgnOf_pos _ _ (by omega))]),HB.out⟩
 · go_enter Tryd.func46,Tryd.ntmps46
   go_wp2_with fail
   refine (rsize_any _ _).mono ?_
   rintro e W1 ⟨rfl,rfl⟩
   rw [show kSize 6=1 from rfl]
   go_wp2_with fail
   refine (rsign_any _ _).mono ?_
   rintro e W1 ⟨rfl,rfl⟩
   rw [show kSign 6=false from rfl]
   go_wp2
   go_ret
   exact ⟨ret_int (by rw [P6.out];omega),HB.out⟩
 · go_enter Tryd.func46,Tryd.ntmps46
   go_wp2_with fail
   refine (rsize_any _ _).mono ?_
   rintro e W1 ⟨rfl,rfl⟩
   rw [show kSize 7=2 from rfl]
   go_wp2_with fail
   refine (rsign_any _ _).mono ?_
   rintro e W1 ⟨rfl,rfl⟩
   rw [show kSign 7=false from rfl]
   go_wp2
   go_ret
   exact ⟨ret_int (by rw [P7.out];omega),HB.out⟩
 · go_enter Tryd.func46,Tryd.ntmps46
   go_wp2_with fail
   refine (rsize_any _ _).mono ?_
   rintro e W1 ⟨rfl,rfl⟩
   rw [show kSize 8=4 from rfl]
   go_wp2_with fail
   refine (rsign_any _ _).mono ?_
   rintro e W1 ⟨rfl,rfl⟩
   rw [show kSign 8=false from rfl]
   go_wp2
   go_ret
   exact ⟨ret_int (by rw [P8.out];omega),HB.out⟩
 · go_enter Tryd.func46,Tryd.ntmps46
   go_wp2_with fail
   refine (rsize_any _ _).mono ?_
   rintro e W1 ⟨rfl,rfl⟩
   rw [show kSize 9=8 from rfl]
   go_wp2_with fail
   refine (rsign_any _ _).mono ?_
   rintro e W1 ⟨rfl,rfl⟩
   rw [show kSign 9=false from rfl]
   go_wp2
   go_ret
   exact ⟨ret_int (by rw [P9.out]),HB.out⟩
set_option maxRecDepth 100000 in
theorem numberE_any (ref lists n:Nat){b:Nat}{ss:List (SRec × Value)}{es:List (SCho × Value)}{sv ev:Value}(root:Int)(w:World)(h:SchRows b w ss es sv ev)(hr:ref<es.length)(hc:1≤es[ref].1.names.length)(hn:(n:Int)≤18446744073709551615) :
  Calls Tryd.prog 46 #[.agg #[sv,ev,.int .i64 root],.agg #[.int .u8 10,.int .i64 ref,.int .i64 lists],.int .u64 n] w fun e w'=>e=.returned (.int .u64 (numP es[ref].1.names.length 10 n:Nat))∧Below w.heap.size w w':=by
 obtain ⟨hb,hz1,hz2⟩:=two_start w #[sv,ev,.int .i64 root] #[.int .u8 10,.int .i64 ref,.int .i64 lists] 30 62
 obtain ⟨_,y0,y1,y2,_⟩:=blk3 hz2
 obtain ⟨_,z0,z1,z2,_⟩:=blk3 hz1
 have hf1:=row_few h.enums
 have hf2:=row_few (h.names _ (List.getElem_mem hr))
 obtain ⟨g,c,a,m,rfl,hc1,hg,x0,x1,_⟩:=(h.below hb).enum ref hr
 have HB:=Lib.hid hb
 have HN:=Lib.hid hn
 have HP:Hid (numP es[ref].1.names.length 10 n=n % es[ref].1.names.length):=Lib.hid rfl
 clear hb hz1 hz2 h y2 z0 z2 x0
 generalize es[ref].1.names.length=cnt at *
 have hw:IntKind.u64.wrap (cnt:Int)=cnt:=IntWalk.u64_in _ (by omega)
 have hq:(cnt:Int)≠0:=by omega
 have hq2:(0:Int)<cnt:=by omega
 go_enter Tryd.func46,Tryd.ntmps46
 go_wp2_with fail
 refine (rsize_any _ _).mono ?_
 rintro e W1 ⟨rfl,rfl⟩
 rw [show kSize 10=1 from rfl]
 go_wp2
 go_ret
 exact ⟨ret_int (by rw [HP.out];omega),HB.out⟩
end Go.Proofs.YtpbaaedijfofnaaDoor
namespace Go.Proofs.YtpbaaedijfofnaaDoor
open Go.ChangeShapes Go.WideShapes Go.ChangeAt Go.RowKit
def loopsOf:Code→List Code
 | .loop c=>c::loopsOf c
 | .seq a b=>loopsOf a++loopsOf b
 | .block _ c=>loopsOf c
 | .scope c=>loopsOf c
 | .cond _ a b=>loopsOf a++loopsOf b
 | _=>[]
noncomputable def madeLoop (n:Nat):Code:=((Tryd.f14.body.map loopsOf).getD []).getD n .skip
theorem arr_lit (t:Array Value)(h:t.size=241):t=((List.range 241).map fun n=>t.getD n undef).toArray:=by
 apply Array.ext'
 apply List.ext_getElem?
 intro i
 by_cases hi:i<241
 · have h':i<t.size:=by omega
   simp [hi,h',Array.getD]
 · have h':¬i<t.size:=by omega
   simp [hi,h']
set_option maxRecDepth 100000 in
theorem lit_all (u:Nat→Value):((List.range 241).map u).toArray=#[u 0,u 1,u 2,u 3,u 4,u 5,u 6,u 7,u 8,u 9,u 10,u 11,u 12,u 13,u 14,u 15,u 16,u 17,u 18,u 19,u 20,u 21,u 22,u 23,u 24,u 25,u 26,u 27,u 28,u 29,u 30,u 31,u 32,u 33,u 34,u 35,u 36,u 37,u 38,u 39,u 40,u 41,u 42,u 43,u 44,u 45,u 46,u 47,u 48,u 49,u 50,u 51,u 52,u 53,u 54,u 55,u 56,u 57,u 58,u 59,u 60,u 61,u 62,u 63,u 64,u 65,u 66,u 67,u 68,u 69,u 70,u 71,u 72,u 73,u 74,u 75,u 76,u 77,u 78,u 79,u 80,u 81,u 82,u 83,u 84,u 85,u 86,u 87,u 88,u 89,u 90,u 91,u 92,u 93,u 94,u 95,u 96,u 97,u 98,u 99,u 100,u 101,u 102,u 103,u 104,u 105,u 106,u 107,u 108,u 109,u 110,u 111,u 112,u 113,u 114,u 115,u 116,u 117,u 118,u 119,u 120,u 121,u 122,u 123,u 124,u 125,u 126,u 127,u 128,u 129,u 130,u 131,u 132,u 133,u 134,u 135,u 136,u 137,u 138,u 139,u 140,u 141,u 142,u 143,u 144,u 145,u 146,u 147,u 148,u 149,u 150,u 151,u 152,u 153,u 154,u 155,u 156,u 157,u 158,u 159,u 160,u 161,u 162,u 163,u 164,u 165,u 166,u 167,u 168,u 169,u 170,u 171,u 172,u 173,u 174,u 175,u 176,u 177,u 178,u 179,u 180,u 181,u 182,u 183,u 184,u 185,u 186,u 187,u 188,u 189,u 190,u 191,u 192,u 193,u 194,u 195,u 196,u 197,u 198,u 199,u 200,u 201,u 202,u 203,u 204,u 205,u 206,u 207,u 208,u 209,u 210,u 211,u 212,u 213,u 214,u 215,u 216,u 217,u 218,u 219,u 220,u 221,u 222,u 223,u 224,u 225,u 226,u 227,u 228,u 229,u 230,u 231,u 232,u 233,u 234,u 235,u 236,u 237,u 238,u 239,u 240]:=rfl
structure FrA (b i:Nat)(c:Act):Prop where
 df:c.defers=[]
 sz:c.tmps.size=241
 s1:c.tmps.getD 1 undef=.pointer (some ⟨b,0,none⟩)
 s2:c.tmps.getD 2 undef=.pointer (some ⟨b+1,0,none⟩)
 s3:c.tmps.getD 3 undef=.bool false
 s4:c.tmps.getD 4 undef=.pointer (some ⟨b+2,0,none⟩)
 s5:c.tmps.getD 5 undef=.int .i64 i
set_option maxRecDepth 100000 in
theorem fra_lit {b i:Nat}{c:Act}(h:FrA b i c):∃ u:Nat→Value,c=⟨#[u 0,.pointer (some ⟨b,0,none⟩),.pointer (some ⟨b+1,0,none⟩),.bool false,.pointer (some ⟨b+2,0,none⟩),.int .i64 i,u 6,u 7,u 8,u 9,u 10,u 11,u 12,u 13,u 14,u 15,u 16,u 17,u 18,u 19,u 20,u 21,u 22,u 23,u 24,u 25,u 26,u 27,u 28,u 29,u 30,u 31,u 32,u 33,u 34,u 35,u 36,u 37,u 38,u 39,u 40,u 41,u 42,u 43,u 44,u 45,u 46,u 47,u 48,u 49,u 50,u 51,u 52,u 53,u 54,u 55,u 56,u 57,u 58,u 59,u 60,u 61,u 62,u 63,u 64,u 65,u 66,u 67,u 68,u 69,u 70,u 71,u 72,u 73,u 74,u 75,u 76,u 77,u 78,u 79,u 80,u 81,u 82,u 83,u 84,u 85,u 86,u 87,u 88,u 89,u 90,u 91,u 92,u 93,u 94,u 95,u 96,u 97,u 98,u 99,u 100,u 101,u 102,u 103,u 104,u 105,u 106,u 107,u 108,u 109,u 110,u 111,u 112,u 113,u 114,u 115,u 116,u 117,u 118,u 119,u 120,u 121,u 122,u 123,u 124,u 125,u 126,u 127,u 128,u 129,u 130,u 131,u 132,u 133,u 134,u 135,u 136,u 137,u 138,u 139,u 140,u 141,u 142,u 143,u 144,u 145,u 146,u 147,u 148,u 149,u 150,u 151,u 152,u 153,u 154,u 155,u 156,u 157,u 158,u 159,u 160,u 161,u 162,u 163,u 164,u 165,u 166,u 167,u 168,u 169,u 170,u 171,u 172,u 173,u 174,u 175,u 176,u 177,u 178,u 179,u 180,u 181,u 182,u 183,u 184,u 185,u 186,u 187,u 188,u 189,u 190,u 191,u 192,u 193,u 194,u 195,u 196,u 197,u 198,u 199,u 200,u 201,u 202,u 203,u 204,u 205,u 206,u 207,u 208,u 209,u 210,u 211,u 212,u 213,u 214,u 215,u 216,u 217,u 218,u 219,u 220,u 221,u 222,u 223,u 224,u 225,u 226,u 227,u 228,u 229,u 230,u 231,u 232,u 233,u 234,u 235,u 236,u 237,u 238,u 239,u 240],[]⟩:=by
 obtain ⟨hd,hs,h1,h2,h3,h4,h5⟩:=h
 refine ⟨fun n=>c.tmps.getD n undef,?_⟩
 obtain ⟨t,d⟩:=c
 simp only at hd hs h1 h2 h3 h4 h5 ⊢
 subst hd
 congr 1
 refine (arr_lit t hs).trans ?_
 rw [lit_all]
 simp only [h1,h2,h3,h4,h5]
structure FrB (b i C k:Nat)(c:Act):Prop where
 df:c.defers=[]
 sz:c.tmps.size=241
 s1:c.tmps.getD 1 undef=.pointer (some ⟨b,0,none⟩)
 s2:c.tmps.getD 2 undef=.pointer (some ⟨b+1,0,none⟩)
 s3:c.tmps.getD 3 undef=.bool false
 s4:c.tmps.getD 4 undef=.pointer (some ⟨b+2,0,none⟩)
 s5:c.tmps.getD 5 undef=.int .i64 i
 s6:c.tmps.getD 6 undef=.pointer (some ⟨C,0,none⟩)
 s7:c.tmps.getD 7 undef=.int .i64 k
set_option maxRecDepth 100000 in
theorem frb_lit {b i C k:Nat}{c:Act}(h:FrB b i C k c):∃ u:Nat→Value,c=⟨#[u 0,.pointer (some ⟨b,0,none⟩),.pointer (some ⟨b+1,0,none⟩),.bool false,.pointer (some ⟨b+2,0,none⟩),.int .i64 i,.pointer (some ⟨C,0,none⟩),.int .i64 k,u 8,u 9,u 10,u 11,u 12,u 13,u 14,u 15,u 16,u 17,u 18,u 19,u 20,u 21,u 22,u 23,u 24,u 25,u 26,u 27,u 28,u 29,u 30,u 31,u 32,u 33,u 34,u 35,u 36,u 37,u 38,u 39,u 40,u 41,u 42,u 43,u 44,u 45,u 46,u 47,u 48,u 49,u 50,u 51,u 52,u 53,u 54,u 55,u 56,u 57,u 58,u 59,u 60,u 61,u 62,u 63,u 64,u 65,u 66,u 67,u 68,u 69,u 70,u 71,u 72,u 73,u 74,u 75,u 76,u 77,u 78,u 79,u 80,u 81,u 82,u 83,u 84,u 85,u 86,u 87,u 88,u 89,u 90,u 91,u 92,u 93,u 94,u 95,u 96,u 97,u 98,u 99,u 100,u 101,u 102,u 103,u 104,u 105,u 106,u 107,u 108,u 109,u 110,u 111,u 112,u 113,u 114,u 115,u 116,u 117,u 118,u 119,u 120,u 121,u 122,u 123,u 124,u 125,u 126,u 127,u 128,u 129,u 130,u 131,u 132,u 133,u 134,u 135,u 136,u 137,u 138,u 139,u 140,u 141,u 142,u 143,u 144,u 145,u 146,u 147,u 148,u 149,u 150,u 151,u 152,u 153,u 154,u 155,u 156,u 157,u 158,u 159,u 160,u 161,u 162,u 163,u 164,u 165,u 166,u 167,u 168,u 169,u 170,u 171,u 172,u 173,u 174,u 175,u 176,u 177,u 178,u 179,u 180,u 181,u 182,u 183,u 184,u 185,u 186,u 187,u 188,u 189,u 190,u 191,u 192,u 193,u 194,u 195,u 196,u 197,u 198,u 199,u 200,u 201,u 202,u 203,u 204,u 205,u 206,u 207,u 208,u 209,u 210,u 211,u 212,u 213,u 214,u 215,u 216,u 217,u 218,u 219,u 220,u 221,u 222,u 223,u 224,u 225,u 226,u 227,u 228,u 229,u 230,u 231,u 232,u 233,u 234,u 235,u 236,u 237,u 238,u 239,u 240],[]⟩:=by
 obtain ⟨hd,hs,h1,h2,h3,h4,h5,h6,h7⟩:=h
 refine ⟨fun n=>c.tmps.getD n undef,?_⟩
 obtain ⟨t,d⟩:=c
 simp only at hd hs h1 h2 h3 h4 h5 h6 h7 ⊢
 subst hd
 congr 1
 refine (arr_lit t hs).trans ?_
 rw [lit_all]
 simp only [h1,h2,h3,h4,h5,h6,h7]
structure FrC (b i:Nat)(c:Act):Prop where
 df:c.defers=[]
 sz:c.tmps.size=241
 s1:c.tmps.getD 1 undef=.pointer (some ⟨b,0,none⟩)
 s2:c.tmps.getD 2 undef=.pointer (some ⟨b+1,0,none⟩)
 s3:c.tmps.getD 3 undef=.bool false
 s4:c.tmps.getD 4 undef=.pointer (some ⟨b+2,0,none⟩)
 s8:c.tmps.getD 8 undef=.int .i64 i
set_option maxRecDepth 100000 in
theorem frc_lit {b i:Nat}{c:Act}(h:FrC b i c):∃ u:Nat→Value,c=⟨#[u 0,.pointer (some ⟨b,0,none⟩),.pointer (some ⟨b+1,0,none⟩),.bool false,.pointer (some ⟨b+2,0,none⟩),u 5,u 6,u 7,.int .i64 i,u 9,u 10,u 11,u 12,u 13,u 14,u 15,u 16,u 17,u 18,u 19,u 20,u 21,u 22,u 23,u 24,u 25,u 26,u 27,u 28,u 29,u 30,u 31,u 32,u 33,u 34,u 35,u 36,u 37,u 38,u 39,u 40,u 41,u 42,u 43,u 44,u 45,u 46,u 47,u 48,u 49,u 50,u 51,u 52,u 53,u 54,u 55,u 56,u 57,u 58,u 59,u 60,u 61,u 62,u 63,u 64,u 65,u 66,u 67,u 68,u 69,u 70,u 71,u 72,u 73,u 74,u 75,u 76,u 77,u 78,u 79,u 80,u 81,u 82,u 83,u 84,u 85,u 86,u 87,u 88,u 89,u 90,u 91,u 92,u 93,u 94,u 95,u 96,u 97,u 98,u 99,u 100,u 101,u 102,u 103,u 104,u 105,u 106,u 107,u 108,u 109,u 110,u 111,u 112,u 113,u 114,u 115,u 116,u 117,u 118,u 119,u 120,u 121,u 122,u 123,u 124,u 125,u 126,u 127,u 128,u 129,u 130,u 131,u 132,u 133,u 134,u 135,u 136,u 137,u 138,u 139,u 140,u 141,u 142,u 143,u 144,u 145,u 146,u 147,u 148,u 149,u 150,u 151,u 152,u 153,u 154,u 155,u 156,u 157,u 158,u 159,u 160,u 161,u 162,u 163,u 164,u 165,u 166,u 167,u 168,u 169,u 170,u 171,u 172,u 173,u 174,u 175,u 176,u 177,u 178,u 179,u 180,u 181,u 182,u 183,u 184,u 185,u 186,u 187,u 188,u 189,u 190,u 191,u 192,u 193,u 194,u 195,u 196,u 197,u 198,u 199,u 200,u 201,u 202,u 203,u 204,u 205,u 206,u 207,u 208,u 209,u 210,u 211,u 212,u 213,u 214,u 215,u 216,u 217,u 218,u 219,u 220,u 221,u 222,u 223,u 224,u 225,u 226,u 227,u 228,u 229,u 230,u 231,u 232,u 233,u 234,u 235,u 236,u 237,u 238,u 239,u 240],[]⟩:=by
 obtain ⟨hd,hs,h1,h2,h3,h4,h8⟩:=h
 refine ⟨fun n=>c.tmps.getD n undef,?_⟩
 obtain ⟨t,d⟩:=c
 simp only at hd hs h1 h2 h3 h4 h8 ⊢
 subst hd
 congr 1
 refine (arr_lit t hs).trans ?_
 rw [lit_all]
 simp only [h1,h2,h3,h4,h8]
structure FrD (b i:Nat)(a:Option Addr)(n c0 R k:Nat)(c:Act):Prop where
 df:c.defers=[]
 sz:c.tmps.size=241
 s1:c.tmps.getD 1 undef=.pointer (some ⟨b,0,none⟩)
 s2:c.tmps.getD 2 undef=.pointer (some ⟨b+1,0,none⟩)
 s3:c.tmps.getD 3 undef=.bool false
 s4:c.tmps.getD 4 undef=.pointer (some ⟨b+2,0,none⟩)
 s8:c.tmps.getD 8 undef=.int .i64 i
 s9:c.tmps.getD 9 undef=.slice a n c0
 s10:c.tmps.getD 10 undef=.pointer (some ⟨R,0,none⟩)
 s11:c.tmps.getD 11 undef=.int .i64 k
set_option maxRecDepth 100000 in
theorem frd_lit {b i:Nat}{a:Option Addr}{n c0 R k:Nat}{c:Act}(h:FrD b i a n c0 R k c):∃ u:Nat→Value,c=⟨#[u 0,.pointer (some ⟨b,0,none⟩),.pointer (some ⟨b+1,0,none⟩),.bool false,.pointer (some ⟨b+2,0,none⟩),u 5,u 6,u 7,.int .i64 i,.slice a n c0,.pointer (some ⟨R,0,none⟩),.int .i64 k,u 12,u 13,u 14,u 15,u 16,u 17,u 18,u 19,u 20,u 21,u 22,u 23,u 24,u 25,u 26,u 27,u 28,u 29,u 30,u 31,u 32,u 33,u 34,u 35,u 36,u 37,u 38,u 39,u 40,u 41,u 42,u 43,u 44,u 45,u 46,u 47,u 48,u 49,u 50,u 51,u 52,u 53,u 54,u 55,u 56,u 57,u 58,u 59,u 60,u 61,u 62,u 63,u 64,u 65,u 66,u 67,u 68,u 69,u 70,u 71,u 72,u 73,u 74,u 75,u 76,u 77,u 78,u 79,u 80,u 81,u 82,u 83,u 84,u 85,u 86,u 87,u 88,u 89,u 90,u 91,u 92,u 93,u 94,u 95,u 96,u 97,u 98,u 99,u 100,u 101,u 102,u 103,u 104,u 105,u 106,u 107,u 108,u 109,u 110,u 111,u 112,u 113,u 114,u 115,u 116,u 117,u 118,u 119,u 120,u 121,u 122,u 123,u 124,u 125,u 126,u 127,u 128,u 129,u 130,u 131,u 132,u 133,u 134,u 135,u 136,u 137,u 138,u 139,u 140,u 141,u 142,u 143,u 144,u 145,u 146,u 147,u 148,u 149,u 150,u 151,u 152,u 153,u 154,u 155,u 156,u 157,u 158,u 159,u 160,u 161,u 162,u 163,u 164,u 165,u 166,u 167,u 168,u 169,u 170,u 171,u 172,u 173,u 174,u 175,u 176,u 177,u 178,u 179,u 180,u 181,u 182,u 183,u 184,u 185,u 186,u 187,u 188,u 189,u 190,u 191,u 192,u 193,u 194,u 195,u 196,u 197,u 198,u 199,u 200,u 201,u 202,u 203,u 204,u 205,u 206,u 207,u 208,u 209,u 210,u 211,u 212,u 213,u 214,u 215,u 216,u 217,u 218,u 219,u 220,u 221,u 222,u 223,u 224,u 225,u 226,u 227,u 228,u 229,u 230,u 231,u 232,u 233,u 234,u 235,u 236,u 237,u 238,u 239,u 240],[]⟩:=by
 obtain ⟨hd,hs,h1,h2,h3,h4,h8,h9,h10,h11⟩:=h
 refine ⟨fun n=>c.tmps.getD n undef,?_⟩
 obtain ⟨t,d⟩:=c
 simp only at hd hs h1 h2 h3 h4 h8 h9 h10 h11 ⊢
 subst hd
 congr 1
 refine (arr_lit t hs).trans ?_
 rw [lit_all]
 simp only [h1,h2,h3,h4,h8,h9,h10,h11]
structure FrE (b i:Nat)(a:Option Addr)(n c0 R k T:Nat)(c:Act):Prop where
 df:c.defers=[]
 sz:c.tmps.size=241
 s1:c.tmps.getD 1 undef=.pointer (some ⟨b,0,none⟩)
 s2:c.tmps.getD 2 undef=.pointer (some ⟨b+1,0,none⟩)
 s3:c.tmps.getD 3 undef=.bool false
 s4:c.tmps.getD 4 undef=.pointer (some ⟨b+2,0,none⟩)
 s8:c.tmps.getD 8 undef=.int .i64 i
 s9:c.tmps.getD 9 undef=.slice a n c0
 s10:c.tmps.getD 10 undef=.pointer (some ⟨R,0,none⟩)
 s11:c.tmps.getD 11 undef=.int .i64 k
 s12:c.tmps.getD 12 undef=.pointer (some ⟨T,0,none⟩)
set_option maxRecDepth 100000 in
theorem fre_lit {b i:Nat}{a:Option Addr}{n c0 R k T:Nat}{c:Act}(h:FrE b i a n c0 R k T c):∃ u:Nat→Value,c=⟨#[u 0,.pointer (some ⟨b,0,none⟩),.pointer (some ⟨b+1,0,none⟩),.bool false,.pointer (some ⟨b+2,0,none⟩),u 5,u 6,u 7,.int .i64 i,.slice a n c0,.pointer (some ⟨R,0,none⟩),.int .i64 k,.pointer (some ⟨T,0,none⟩),u 13,u 14,u 15,u 16,u 17,u 18,u 19,u 20,u 21,u 22,u 23,u 24,u 25,u 26,u 27,u 28,u 29,u 30,u 31,u 32,u 33,u 34,u 35,u 36,u 37,u 38,u 39,u 40,u 41,u 42,u 43,u 44,u 45,u 46,u 47,u 48,u 49,u 50,u 51,u 52,u 53,u 54,u 55,u 56,u 57,u 58,u 59,u 60,u 61,u 62,u 63,u 64,u 65,u 66,u 67,u 68,u 69,u 70,u 71,u 72,u 73,u 74,u 75,u 76,u 77,u 78,u 79,u 80,u 81,u 82,u 83,u 84,u 85,u 86,u 87,u 88,u 89,u 90,u 91,u 92,u 93,u 94,u 95,u 96,u 97,u 98,u 99,u 100,u 101,u 102,u 103,u 104,u 105,u 106,u 107,u 108,u 109,u 110,u 111,u 112,u 113,u 114,u 115,u 116,u 117,u 118,u 119,u 120,u 121,u 122,u 123,u 124,u 125,u 126,u 127,u 128,u 129,u 130,u 131,u 132,u 133,u 134,u 135,u 136,u 137,u 138,u 139,u 140,u 141,u 142,u 143,u 144,u 145,u 146,u 147,u 148,u 149,u 150,u 151,u 152,u 153,u 154,u 155,u 156,u 157,u 158,u 159,u 160,u 161,u 162,u 163,u 164,u 165,u 166,u 167,u 168,u 169,u 170,u 171,u 172,u 173,u 174,u 175,u 176,u 177,u 178,u 179,u 180,u 181,u 182,u 183,u 184,u 185,u 186,u 187,u 188,u 189,u 190,u 191,u 192,u 193,u 194,u 195,u 196,u 197,u 198,u 199,u 200,u 201,u 202,u 203,u 204,u 205,u 206,u 207,u 208,u 209,u 210,u 211,u 212,u 213,u 214,u 215,u 216,u 217,u 218,u 219,u 220,u 221,u 222,u 223,u 224,u 225,u 226,u 227,u 228,u 229,u 230,u 231,u 232,u 233,u 234,u 235,u 236,u 237,u 238,u 239,u 240],[]⟩:=by
 obtain ⟨hd,hs,h1,h2,h3,h4,h8,h9,h10,h11,h12⟩:=h
 refine ⟨fun n=>c.tmps.getD n undef,?_⟩
 obtain ⟨t,d⟩:=c
 simp only at hd hs h1 h2 h3 h4 h8 h9 h10 h11 h12 ⊢
 subst hd
 congr 1
 refine (arr_lit t hs).trans ?_
 rw [lit_all]
 simp only [h1,h2,h3,h4,h8,h9,h10,h11,h12]
structure FrF (b i:Nat)(a:Option Addr)(n c0 R k T G:Nat)(c:Act):Prop where
 df:c.defers=[]
 sz:c.tmps.size=241
 s1:c.tmps.getD 1 undef=.pointer (some ⟨b,0,none⟩)
 s2:c.tmps.getD 2 undef=.pointer (some ⟨b+1,0,none⟩)
 s3:c.tmps.getD 3 undef=.bool false
 s4:c.tmps.getD 4 undef=.pointer (some ⟨b+2,0,none⟩)
 s8:c.tmps.getD 8 undef=.int .i64 i
 s9:c.tmps.getD 9 undef=.slice a n c0
 s10:c.tmps.getD 10 undef=.pointer (some ⟨R,0,none⟩)
 s11:c.tmps.getD 11 undef=.int .i64 k
 s12:c.tmps.getD 12 undef=.pointer (some ⟨T,0,none⟩)
 s13:c.tmps.getD 13 undef=.pointer (some ⟨G,0,none⟩)
set_option maxRecDepth 100000 in
theorem frf_lit {b i:Nat}{a:Option Addr}{n c0 R k T G:Nat}{c:Act}(h:FrF b i a n c0 R k T G c):∃ u:Nat→Value,c=⟨#[u 0,.pointer (some ⟨b,0,none⟩),.pointer (some ⟨b+1,0,none⟩),.bool false,.pointer (some ⟨b+2,0,none⟩),u 5,u 6,u 7,.int .i64 i,.slice a n c0,.pointer (some ⟨R,0,none⟩),.int .i64 k,.pointer (some ⟨T,0,none⟩),.pointer (some ⟨G,0,none⟩),u 14,u 15,u 16,u 17,u 18,u 19,u 20,u 21,u 22,u 23,u 24,u 25,u 26,u 27,u 28,u 29,u 30,u 31,u 32,u 33,u 34,u 35,u 36,u 37,u 38,u 39,u 40,u 41,u 42,u 43,u 44,u 45,u 46,u 47,u 48,u 49,u 50,u 51,u 52,u 53,u 54,u 55,u 56,u 57,u 58,u 59,u 60,u 61,u 62,u 63,u 64,u 65,u 66,u 67,u 68,u 69,u 70,u 71,u 72,u 73,u 74,u 75,u 76,u 77,u 78,u 79,u 80,u 81,u 82,u 83,u 84,u 85,u 86,u 87,u 88,u 89,u 90,u 91,u 92,u 93,u 94,u 95,u 96,u 97,u 98,u 99,u 100,u 101,u 102,u 103,u 104,u 105,u 106,u 107,u 108,u 109,u 110,u 111,u 112,u 113,u 114,u 115,u 116,u 117,u 118,u 119,u 120,u 121,u 122,u 123,u 124,u 125,u 126,u 127,u 128,u 129,u 130,u 131,u 132,u 133,u 134,u 135,u 136,u 137,u 138,u 139,u 140,u 141,u 142,u 143,u 144,u 145,u 146,u 147,u 148,u 149,u 150,u 151,u 152,u 153,u 154,u 155,u 156,u 157,u 158,u 159,u 160,u 161,u 162,u 163,u 164,u 165,u 166,u 167,u 168,u 169,u 170,u 171,u 172,u 173,u 174,u 175,u 176,u 177,u 178,u 179,u 180,u 181,u 182,u 183,u 184,u 185,u 186,u 187,u 188,u 189,u 190,u 191,u 192,u 193,u 194,u 195,u 196,u 197,u 198,u 199,u 200,u 201,u 202,u 203,u 204,u 205,u 206,u 207,u 208,u 209,u 210,u 211,u 212,u 213,u 214,u 215,u 216,u 217,u 218,u 219,u 220,u 221,u 222,u 223,u 224,u 225,u 226,u 227,u 228,u 229,u 230,u 231,u 232,u 233,u 234,u 235,u 236,u 237,u 238,u 239,u 240],[]⟩:=by
 obtain ⟨hd,hs,h1,h2,h3,h4,h8,h9,h10,h11,h12,h13⟩:=h
 refine ⟨fun n=>c.tmps.getD n undef,?_⟩
 obtain ⟨t,d⟩:=c
 simp only at hd hs h1 h2 h3 h4 h8 h9 h10 h11 h12 h13 ⊢
 subst hd
 congr 1
 refine (arr_lit t hs).trans ?_
 rw [lit_all]
 simp only [h1,h2,h3,h4,h8,h9,h10,h11,h12,h13]
end Go.Proofs.YtpbaaedijfofnaaDoor
