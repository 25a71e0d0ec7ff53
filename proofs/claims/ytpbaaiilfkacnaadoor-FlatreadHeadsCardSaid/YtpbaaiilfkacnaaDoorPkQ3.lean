/-
  An append to a row without room behind it (a slice cut at its length): the answer is a new row. Conditions: those that each theorem names.
-/
import Derived.Test.YtpbaaiilfkacnaaDoorPkQ2
import Derived.Deep.AppendLies
import Derived.OwnWalk
namespace Go.Proofs.YtpbaaiilfkacnaaDoor
open Go.ChangeShapes Go.WideShapes Go.ChangeAt Go.RowKit
set_option maxRecDepth 100000
set_option maxHeartbeats 16000000
def lB:Code→List Code
 | .loop c=>c::lB c
 | .seq a b=>lB a++lB b
 | .block _ c=>lB c
 | .scope c=>lB c
 | .cond _ a b=>lB a++lB b
 | _=>[]
noncomputable def qF (n:Nat):Code:=((Tryd.f10.body.map lB).getD []).getD n .skip
theorem oE (t:Array Value)(h:t.size=241):t=((List.range 241).map fun n=>t.getD n undef).toArray:=by
 apply Array.ext'
 apply List.ext_getElem?
 intro i;by_cases hi:i<241
 · have h':i<t.size:=by omega
   simp [hi,h',Array.getD]
 · have h':¬i<t.size:=by omega
   simp [hi,h']
theorem nW (u:Nat→Value):((List.range 241).map u).toArray=#[u 0,u 1,u 2,u 3,u 4,u 5,u 6,u 7,u 8,u 9,u 10,u 11,u 12,u 13,u 14,u 15,u 16,u 17,u 18,u 19,u 20,u 21,u 22,u 23,u 24,u 25,u 26,u 27,u 28,u 29,u 30,u 31,u 32,u 33,u 34,u 35,u 36,u 37,u 38,u 39,u 40,u 41,u 42,u 43,u 44,u 45,u 46,u 47,u 48,u 49,u 50,u 51,u 52,u 53,u 54,u 55,u 56,u 57,u 58,u 59,u 60,u 61,u 62,u 63,u 64,u 65,u 66,u 67,u 68,u 69,u 70,u 71,u 72,u 73,u 74,u 75,u 76,u 77,u 78,u 79,u 80,u 81,u 82,u 83,u 84,u 85,u 86,u 87,u 88,u 89,u 90,u 91,u 92,u 93,u 94,u 95,u 96,u 97,u 98,u 99,u 100,u 101,u 102,u 103,u 104,u 105,u 106,u 107,u 108,u 109,u 110,u 111,u 112,u 113,u 114,u 115,u 116,u 117,u 118,u 119,u 120,u 121,u 122,u 123,u 124,u 125,u 126,u 127,u 128,u 129,u 130,u 131,u 132,u 133,u 134,u 135,u 136,u 137,u 138,u 139,u 140,u 141,u 142,u 143,u 144,u 145,u 146,u 147,u 148,u 149,u 150,u 151,u 152,u 153,u 154,u 155,u 156,u 157,u 158,u 159,u 160,u 161,u 162,u 163,u 164,u 165,u 166,u 167,u 168,u 169,u 170,u 171,u 172,u 173,u 174,u 175,u 176,u 177,u 178,u 179,u 180,u 181,u 182,u 183,u 184,u 185,u 186,u 187,u 188,u 189,u 190,u 191,u 192,u 193,u 194,u 195,u 196,u 197,u 198,u 199,u 200,u 201,u 202,u 203,u 204,u 205,u 206,u 207,u 208,u 209,u 210,u 211,u 212,u 213,u 214,u 215,u 216,u 217,u 218,u 219,u 220,u 221,u 222,u 223,u 224,u 225,u 226,u 227,u 228,u 229,u 230,u 231,u 232,u 233,u 234,u 235,u 236,u 237,u 238,u 239,u 240]:=rfl
structure FrA (b i:Nat)(c:Act):Prop where
 df:c.defers=[]
 sz:c.tmps.size=241
 s1:c.tmps.getD 1 undef=.pointer (some ⟨b,0,none⟩)
 s2:c.tmps.getD 2 undef=.pointer (some ⟨b+1,0,none⟩)
 s3:c.tmps.getD 3 undef=.bool false
 s4:c.tmps.getD 4 undef=.pointer (some ⟨b+2,0,none⟩)
 s5:c.tmps.getD 5 undef=.int .i64 i
theorem aBF {b i:Nat}{c:Act}(h:FrA b i c):∃ u:Nat→Value,c=⟨#[u 0,.pointer (some ⟨b,0,none⟩),.pointer (some ⟨b+1,0,none⟩),.bool false,.pointer (some ⟨b+2,0,none⟩),.int .i64 i,u 6,u 7,u 8,u 9,u 10,u 11,u 12,u 13,u 14,u 15,u 16,u 17,u 18,u 19,u 20,u 21,u 22,u 23,u 24,u 25,u 26,u 27,u 28,u 29,u 30,u 31,u 32,u 33,u 34,u 35,u 36,u 37,u 38,u 39,u 40,u 41,u 42,u 43,u 44,u 45,u 46,u 47,u 48,u 49,u 50,u 51,u 52,u 53,u 54,u 55,u 56,u 57,u 58,u 59,u 60,u 61,u 62,u 63,u 64,u 65,u 66,u 67,u 68,u 69,u 70,u 71,u 72,u 73,u 74,u 75,u 76,u 77,u 78,u 79,u 80,u 81,u 82,u 83,u 84,u 85,u 86,u 87,u 88,u 89,u 90,u 91,u 92,u 93,u 94,u 95,u 96,u 97,u 98,u 99,u 100,u 101,u 102,u 103,u 104,u 105,u 106,u 107,u 108,u 109,u 110,u 111,u 112,u 113,u 114,u 115,u 116,u 117,u 118,u 119,u 120,u 121,u 122,u 123,u 124,u 125,u 126,u 127,u 128,u 129,u 130,u 131,u 132,u 133,u 134,u 135,u 136,u 137,u 138,u 139,u 140,u 141,u 142,u 143,u 144,u 145,u 146,u 147,u 148,u 149,u 150,u 151,u 152,u 153,u 154,u 155,u 156,u 157,u 158,u 159,u 160,u 161,u 162,u 163,u 164,u 165,u 166,u 167,u 168,u 169,u 170,u 171,u 172,u 173,u 174,u 175,u 176,u 177,u 178,u 179,u 180,u 181,u 182,u 183,u 184,u 185,u 186,u 187,u 188,u 189,u 190,u 191,u 192,u 193,u 194,u 195,u 196,u 197,u 198,u 199,u 200,u 201,u 202,u 203,u 204,u 205,u 206,u 207,u 208,u 209,u 210,u 211,u 212,u 213,u 214,u 215,u 216,u 217,u 218,u 219,u 220,u 221,u 222,u 223,u 224,u 225,u 226,u 227,u 228,u 229,u 230,u 231,u 232,u 233,u 234,u 235,u 236,u 237,u 238,u 239,u 240],[]⟩:=by
 obtain ⟨hd,hs,h1,h2,h3,h4,h5⟩:=h;refine ⟨fun n=>c.tmps.getD n undef,?_⟩;obtain ⟨t,d⟩:=c;simp only at hd hs h1 h2 h3 h4 h5 ⊢;subst hd;congr 1
 refine (oE t hs).trans ?_;rw [nW];simp only [h1,h2,h3,h4,h5]
structure FrB (b i C k:Nat)(c:Act):Prop where
 df:c.defers=[]
 sz:c.tmps.size=241
 s1:c.tmps.getD 1 undef=.pointer (some ⟨b,0,none⟩)
 s2:c.tmps.getD 2 undef=.pointer (some ⟨b+1,0,none⟩)
 s3:c.tmps.getD 3 undef=.bool false
 s4:c.tmps.getD 4 undef=.pointer (some ⟨b+2,0,none⟩)
 s5:c.tmps.getD 5 undef=.int .i64 i
 s6:c.tmps.getD 6 undef=.pointer (some ⟨C,0,none⟩)
 s7:c.tmps.getD 7 undef=.int .i64 k
theorem aBD {b i C k:Nat}{c:Act}(h:FrB b i C k c):∃ u:Nat→Value,c=⟨#[u 0,.pointer (some ⟨b,0,none⟩),.pointer (some ⟨b+1,0,none⟩),.bool false,.pointer (some ⟨b+2,0,none⟩),.int .i64 i,.pointer (some ⟨C,0,none⟩),.int .i64 k,u 8,u 9,u 10,u 11,u 12,u 13,u 14,u 15,u 16,u 17,u 18,u 19,u 20,u 21,u 22,u 23,u 24,u 25,u 26,u 27,u 28,u 29,u 30,u 31,u 32,u 33,u 34,u 35,u 36,u 37,u 38,u 39,u 40,u 41,u 42,u 43,u 44,u 45,u 46,u 47,u 48,u 49,u 50,u 51,u 52,u 53,u 54,u 55,u 56,u 57,u 58,u 59,u 60,u 61,u 62,u 63,u 64,u 65,u 66,u 67,u 68,u 69,u 70,u 71,u 72,u 73,u 74,u 75,u 76,u 77,u 78,u 79,u 80,u 81,u 82,u 83,u 84,u 85,u 86,u 87,u 88,u 89,u 90,u 91,u 92,u 93,u 94,u 95,u 96,u 97,u 98,u 99,u 100,u 101,u 102,u 103,u 104,u 105,u 106,u 107,u 108,u 109,u 110,u 111,u 112,u 113,u 114,u 115,u 116,u 117,u 118,u 119,u 120,u 121,u 122,u 123,u 124,u 125,u 126,u 127,u 128,u 129,u 130,u 131,u 132,u 133,u 134,u 135,u 136,u 137,u 138,u 139,u 140,u 141,u 142,u 143,u 144,u 145,u 146,u 147,u 148,u 149,u 150,u 151,u 152,u 153,u 154,u 155,u 156,u 157,u 158,u 159,u 160,u 161,u 162,u 163,u 164,u 165,u 166,u 167,u 168,u 169,u 170,u 171,u 172,u 173,u 174,u 175,u 176,u 177,u 178,u 179,u 180,u 181,u 182,u 183,u 184,u 185,u 186,u 187,u 188,u 189,u 190,u 191,u 192,u 193,u 194,u 195,u 196,u 197,u 198,u 199,u 200,u 201,u 202,u 203,u 204,u 205,u 206,u 207,u 208,u 209,u 210,u 211,u 212,u 213,u 214,u 215,u 216,u 217,u 218,u 219,u 220,u 221,u 222,u 223,u 224,u 225,u 226,u 227,u 228,u 229,u 230,u 231,u 232,u 233,u 234,u 235,u 236,u 237,u 238,u 239,u 240],[]⟩:=by
 obtain ⟨hd,hs,h1,h2,h3,h4,h5,h6,h7⟩:=h;refine ⟨fun n=>c.tmps.getD n undef,?_⟩;obtain ⟨t,d⟩:=c;simp only at hd hs h1 h2 h3 h4 h5 h6 h7 ⊢;subst hd;congr 1
 refine (oE t hs).trans ?_;rw [nW];simp only [h1,h2,h3,h4,h5,h6,h7]
structure FrC (b i:Nat)(c:Act):Prop where
 df:c.defers=[]
 sz:c.tmps.size=241
 s1:c.tmps.getD 1 undef=.pointer (some ⟨b,0,none⟩)
 s2:c.tmps.getD 2 undef=.pointer (some ⟨b+1,0,none⟩)
 s3:c.tmps.getD 3 undef=.bool false
 s4:c.tmps.getD 4 undef=.pointer (some ⟨b+2,0,none⟩)
 s8:c.tmps.getD 8 undef=.int .i64 i
theorem wW {b i:Nat}{c:Act}(h:FrC b i c):∃ u:Nat→Value,c=⟨#[u 0,.pointer (some ⟨b,0,none⟩),.pointer (some ⟨b+1,0,none⟩),.bool false,.pointer (some ⟨b+2,0,none⟩),u 5,u 6,u 7,.int .i64 i,u 9,u 10,u 11,u 12,u 13,u 14,u 15,u 16,u 17,u 18,u 19,u 20,u 21,u 22,u 23,u 24,u 25,u 26,u 27,u 28,u 29,u 30,u 31,u 32,u 33,u 34,u 35,u 36,u 37,u 38,u 39,u 40,u 41,u 42,u 43,u 44,u 45,u 46,u 47,u 48,u 49,u 50,u 51,u 52,u 53,u 54,u 55,u 56,u 57,u 58,u 59,u 60,u 61,u 62,u 63,u 64,u 65,u 66,u 67,u 68,u 69,u 70,u 71,u 72,u 73,u 74,u 75,u 76,u 77,u 78,u 79,u 80,u 81,u 82,u 83,u 84,u 85,u 86,u 87,u 88,u 89,u 90,u 91,u 92,u 93,u 94,u 95,u 96,u 97,u 98,u 99,u 100,u 101,u 102,u 103,u 104,u 105,u 106,u 107,u 108,u 109,u 110,u 111,u 112,u 113,u 114,u 115,u 116,u 117,u 118,u 119,u 120,u 121,u 122,u 123,u 124,u 125,u 126,u 127,u 128,u 129,u 130,u 131,u 132,u 133,u 134,u 135,u 136,u 137,u 138,u 139,u 140,u 141,u 142,u 143,u 144,u 145,u 146,u 147,u 148,u 149,u 150,u 151,u 152,u 153,u 154,u 155,u 156,u 157,u 158,u 159,u 160,u 161,u 162,u 163,u 164,u 165,u 166,u 167,u 168,u 169,u 170,u 171,u 172,u 173,u 174,u 175,u 176,u 177,u 178,u 179,u 180,u 181,u 182,u 183,u 184,u 185,u 186,u 187,u 188,u 189,u 190,u 191,u 192,u 193,u 194,u 195,u 196,u 197,u 198,u 199,u 200,u 201,u 202,u 203,u 204,u 205,u 206,u 207,u 208,u 209,u 210,u 211,u 212,u 213,u 214,u 215,u 216,u 217,u 218,u 219,u 220,u 221,u 222,u 223,u 224,u 225,u 226,u 227,u 228,u 229,u 230,u 231,u 232,u 233,u 234,u 235,u 236,u 237,u 238,u 239,u 240],[]⟩:=by
 obtain ⟨hd,hs,h1,h2,h3,h4,h8⟩:=h;refine ⟨fun n=>c.tmps.getD n undef,?_⟩;obtain ⟨t,d⟩:=c;simp only at hd hs h1 h2 h3 h4 h8 ⊢;subst hd;congr 1
 refine (oE t hs).trans ?_;rw [nW];simp only [h1,h2,h3,h4,h8]
structure FrD (b i:Nat)(a:Option Addr)(n c0 R k:Nat)(c:Act):Prop where
 df:c.defers=[]
 sz:c.tmps.size=241
 s1:c.tmps.getD 1 undef=.pointer (some ⟨b,0,none⟩)
 s2:c.tmps.getD 2 undef=.pointer (some ⟨b+1,0,none⟩)
 s3:c.tmps.getD 3 undef=.bool false
 s4:c.tmps.getD 4 undef=.pointer (some ⟨b+2,0,none⟩)
 s8:c.tmps.getD 8 undef=.int .i64 i
 s9:c.tmps.getD 9 undef=.slice a n c0
 s10:c.tmps.getD 10 undef=.pointer (some ⟨R,0,none⟩)
 s11:c.tmps.getD 11 undef=.int .i64 k
theorem vZ {b i:Nat}{a:Option Addr}{n c0 R k:Nat}{c:Act}(h:FrD b i a n c0 R k c):∃ u:Nat→Value,c=⟨#[u 0,.pointer (some ⟨b,0,none⟩),.pointer (some ⟨b+1,0,none⟩),.bool false,.pointer (some ⟨b+2,0,none⟩),u 5,u 6,u 7,.int .i64 i,.slice a n c0,.pointer (some ⟨R,0,none⟩),.int .i64 k,u 12,u 13,u 14,u 15,u 16,u 17,u 18,u 19,u 20,u 21,u 22,u 23,u 24,u 25,u 26,u 27,u 28,u 29,u 30,u 31,u 32,u 33,u 34,u 35,u 36,u 37,u 38,u 39,u 40,u 41,u 42,u 43,u 44,u 45,u 46,u 47,u 48,u 49,u 50,u 51,u 52,u 53,u 54,u 55,u 56,u 57,u 58,u 59,u 60,u 61,u 62,u 63,u 64,u 65,u 66,u 67,u 68,u 69,u 70,u 71,u 72,u 73,u 74,u 75,u 76,u 77,u 78,u 79,u 80,u 81,u 82,u 83,u 84,u 85,u 86,u 87,u 88,u 89,u 90,u 91,u 92,u 93,u 94,u 95,u 96,u 97,u 98,u 99,u 100,u 101,u 102,u 103,u 104,u 105,u 106,u 107,u 108,u 109,u 110,u 111,u 112,u 113,u 114,u 115,u 116,u 117,u 118,u 119,u 120,u 121,u 122,u 123,u 124,u 125,u 126,u 127,u 128,u 129,u 130,u 131,u 132,u 133,u 134,u 135,u 136,u 137,u 138,u 139,u 140,u 141,u 142,u 143,u 144,u 145,u 146,u 147,u 148,u 149,u 150,u 151,u 152,u 153,u 154,u 155,u 156,u 157,u 158,u 159,u 160,u 161,u 162,u 163,u 164,u 165,u 166,u 167,u 168,u 169,u 170,u 171,u 172,u 173,u 174,u 175,u 176,u 177,u 178,u 179,u 180,u 181,u 182,u 183,u 184,u 185,u 186,u 187,u 188,u 189,u 190,u 191,u 192,u 193,u 194,u 195,u 196,u 197,u 198,u 199,u 200,u 201,u 202,u 203,u 204,u 205,u 206,u 207,u 208,u 209,u 210,u 211,u 212,u 213,u 214,u 215,u 216,u 217,u 218,u 219,u 220,u 221,u 222,u 223,u 224,u 225,u 226,u 227,u 228,u 229,u 230,u 231,u 232,u 233,u 234,u 235,u 236,u 237,u 238,u 239,u 240],[]⟩:=by
 obtain ⟨hd,hs,h1,h2,h3,h4,h8,h9,h10,h11⟩:=h;refine ⟨fun n=>c.tmps.getD n undef,?_⟩;obtain ⟨t,d⟩:=c;simp only at hd hs h1 h2 h3 h4 h8 h9 h10 h11 ⊢;subst hd;congr 1
 refine (oE t hs).trans ?_;rw [nW];simp only [h1,h2,h3,h4,h8,h9,h10,h11]
structure FrE (b i:Nat)(a:Option Addr)(n c0 R k T:Nat)(c:Act):Prop where
 df:c.defers=[]
 sz:c.tmps.size=241
 s1:c.tmps.getD 1 undef=.pointer (some ⟨b,0,none⟩)
 s2:c.tmps.getD 2 undef=.pointer (some ⟨b+1,0,none⟩)
 s3:c.tmps.getD 3 undef=.bool false
 s4:c.tmps.getD 4 undef=.pointer (some ⟨b+2,0,none⟩)
 s8:c.tmps.getD 8 undef=.int .i64 i
 s9:c.tmps.getD 9 undef=.slice a n c0
 s10:c.tmps.getD 10 undef=.pointer (some ⟨R,0,none⟩)
 s11:c.tmps.getD 11 undef=.int .i64 k
 s12:c.tmps.getD 12 undef=.pointer (some ⟨T,0,none⟩)
theorem aBE {b i:Nat}{a:Option Addr}{n c0 R k T:Nat}{c:Act}(h:FrE b i a n c0 R k T c):∃ u:Nat→Value,c=⟨#[u 0,.pointer (some ⟨b,0,none⟩),.pointer (some ⟨b+1,0,none⟩),.bool false,.pointer (some ⟨b+2,0,none⟩),u 5,u 6,u 7,.int .i64 i,.slice a n c0,.pointer (some ⟨R,0,none⟩),.int .i64 k,.pointer (some ⟨T,0,none⟩),u 13,u 14,u 15,u 16,u 17,u 18,u 19,u 20,u 21,u 22,u 23,u 24,u 25,u 26,u 27,u 28,u 29,u 30,u 31,u 32,u 33,u 34,u 35,u 36,u 37,u 38,u 39,u 40,u 41,u 42,u 43,u 44,u 45,u 46,u 47,u 48,u 49,u 50,u 51,u 52,u 53,u 54,u 55,u 56,u 57,u 58,u 59,u 60,u 61,u 62,u 63,u 64,u 65,u 66,u 67,u 68,u 69,u 70,u 71,u 72,u 73,u 74,u 75,u 76,u 77,u 78,u 79,u 80,u 81,u 82,u 83,u 84,u 85,u 86,u 87,u 88,u 89,u 90,u 91,u 92,u 93,u 94,u 95,u 96,u 97,u 98,u 99,u 100,u 101,u 102,u 103,u 104,u 105,u 106,u 107,u 108,u 109,u 110,u 111,u 112,u 113,u 114,u 115,u 116,u 117,u 118,u 119,u 120,u 121,u 122,u 123,u 124,u 125,u 126,u 127,u 128,u 129,u 130,u 131,u 132,u 133,u 134,u 135,u 136,u 137,u 138,u 139,u 140,u 141,u 142,u 143,u 144,u 145,u 146,u 147,u 148,u 149,u 150,u 151,u 152,u 153,u 154,u 155,u 156,u 157,u 158,u 159,u 160,u 161,u 162,u 163,u 164,u 165,u 166,u 167,u 168,u 169,u 170,u 171,u 172,u 173,u 174,u 175,u 176,u 177,u 178,u 179,u 180,u 181,u 182,u 183,u 184,u 185,u 186,u 187,u 188,u 189,u 190,u 191,u 192,u 193,u 194,u 195,u 196,u 197,u 198,u 199,u 200,u 201,u 202,u 203,u 204,u 205,u 206,u 207,u 208,u 209,u 210,u 211,u 212,u 213,u 214,u 215,u 216,u 217,u 218,u 219,u 220,u 221,u 222,u 223,u 224,u 225,u 226,u 227,u 228,u 229,u 230,u 231,u 232,u 233,u 234,u 235,u 236,u 237,u 238,u 239,u 240],[]⟩:=by
 obtain ⟨hd,hs,h1,h2,h3,h4,h8,h9,h10,h11,h12⟩:=h;refine ⟨fun n=>c.tmps.getD n undef,?_⟩;obtain ⟨t,d⟩:=c;simp only at hd hs h1 h2 h3 h4 h8 h9 h10 h11 h12 ⊢;subst hd;congr 1
 refine (oE t hs).trans ?_;rw [nW];simp only [h1,h2,h3,h4,h8,h9,h10,h11,h12]
structure FrF (b i:Nat)(a:Option Addr)(n c0 R k T G:Nat)(c:Act):Prop where
 df:c.defers=[]
 sz:c.tmps.size=241
 s1:c.tmps.getD 1 undef=.pointer (some ⟨b,0,none⟩)
 s2:c.tmps.getD 2 undef=.pointer (some ⟨b+1,0,none⟩)
 s3:c.tmps.getD 3 undef=.bool false
 s4:c.tmps.getD 4 undef=.pointer (some ⟨b+2,0,none⟩)
 s8:c.tmps.getD 8 undef=.int .i64 i
 s9:c.tmps.getD 9 undef=.slice a n c0
 s10:c.tmps.getD 10 undef=.pointer (some ⟨R,0,none⟩)
 s11:c.tmps.getD 11 undef=.int .i64 k
 s12:c.tmps.getD 12 undef=.pointer (some ⟨T,0,none⟩)
 s13:c.tmps.getD 13 undef=.pointer (some ⟨G,0,none⟩)
theorem aBH {b i:Nat}{a:Option Addr}{n c0 R k T G:Nat}{c:Act}(h:FrF b i a n c0 R k T G c):∃ u:Nat→Value,c=⟨#[u 0,.pointer (some ⟨b,0,none⟩),.pointer (some ⟨b+1,0,none⟩),.bool false,.pointer (some ⟨b+2,0,none⟩),u 5,u 6,u 7,.int .i64 i,.slice a n c0,.pointer (some ⟨R,0,none⟩),.int .i64 k,.pointer (some ⟨T,0,none⟩),.pointer (some ⟨G,0,none⟩),u 14,u 15,u 16,u 17,u 18,u 19,u 20,u 21,u 22,u 23,u 24,u 25,u 26,u 27,u 28,u 29,u 30,u 31,u 32,u 33,u 34,u 35,u 36,u 37,u 38,u 39,u 40,u 41,u 42,u 43,u 44,u 45,u 46,u 47,u 48,u 49,u 50,u 51,u 52,u 53,u 54,u 55,u 56,u 57,u 58,u 59,u 60,u 61,u 62,u 63,u 64,u 65,u 66,u 67,u 68,u 69,u 70,u 71,u 72,u 73,u 74,u 75,u 76,u 77,u 78,u 79,u 80,u 81,u 82,u 83,u 84,u 85,u 86,u 87,u 88,u 89,u 90,u 91,u 92,u 93,u 94,u 95,u 96,u 97,u 98,u 99,u 100,u 101,u 102,u 103,u 104,u 105,u 106,u 107,u 108,u 109,u 110,u 111,u 112,u 113,u 114,u 115,u 116,u 117,u 118,u 119,u 120,u 121,u 122,u 123,u 124,u 125,u 126,u 127,u 128,u 129,u 130,u 131,u 132,u 133,u 134,u 135,u 136,u 137,u 138,u 139,u 140,u 141,u 142,u 143,u 144,u 145,u 146,u 147,u 148,u 149,u 150,u 151,u 152,u 153,u 154,u 155,u 156,u 157,u 158,u 159,u 160,u 161,u 162,u 163,u 164,u 165,u 166,u 167,u 168,u 169,u 170,u 171,u 172,u 173,u 174,u 175,u 176,u 177,u 178,u 179,u 180,u 181,u 182,u 183,u 184,u 185,u 186,u 187,u 188,u 189,u 190,u 191,u 192,u 193,u 194,u 195,u 196,u 197,u 198,u 199,u 200,u 201,u 202,u 203,u 204,u 205,u 206,u 207,u 208,u 209,u 210,u 211,u 212,u 213,u 214,u 215,u 216,u 217,u 218,u 219,u 220,u 221,u 222,u 223,u 224,u 225,u 226,u 227,u 228,u 229,u 230,u 231,u 232,u 233,u 234,u 235,u 236,u 237,u 238,u 239,u 240],[]⟩:=by
 obtain ⟨hd,hs,h1,h2,h3,h4,h8,h9,h10,h11,h12,h13⟩:=h;refine ⟨fun n=>c.tmps.getD n undef,?_⟩;obtain ⟨t,d⟩:=c;simp only at hd hs h1 h2 h3 h4 h8 h9 h10 h11 h12 h13 ⊢;subst hd;congr 1
 refine (oE t hs).trans ?_;rw [nW];simp only [h1,h2,h3,h4,h8,h9,h10,h11,h12,h13]
section
open Go.Shelf
theorem aDM {w:World}{b b':Nat}{e e':TypeId}{s s':Nat}{v v':Value}{n n':Nat}{xs xs':List Value}(h:w.ownsRow b e s v n xs)(h':w.ownsRow b' e' s' v' n' xs')(hne:e≠e'):∀ k,v.ownBlock=some k→v'.ownBlock≠some k:=by
 intro k hk hk';rcases h.2 with ⟨rfl,_⟩|⟨g,cap,cur,rfl,_,hg,_⟩
 · simp [Value.ownBlock] at hk
 rcases h'.2 with ⟨rfl,_⟩|⟨g',cap',cur',rfl,_,hg',_⟩
 · simp [Value.ownBlock] at hk'
 simp [Value.ownBlock] at hk hk';subst hk;subst hk';rw [hg] at hg';injection hg' with hg';injection hg' with _ ht;exact hne ht
theorem vK {w w':World}{row:Option Nat}(hg:w.grownBy w' row){b:Nat}{e:TypeId}{s:Nat}{v:Value}{n:Nat}{xs:List Value}(h:w.ownsRow b e s v n xs)(hne:∀ k,v.ownBlock=some k→row≠some k):w'.ownsRow b e s v n xs:=by
 obtain ⟨hl,h'⟩:=h;refine ⟨hl,?_⟩;rcases h' with h1|⟨g',cap',cur,hv,h1,hg',h2⟩
 · exact .inl h1
 · have hlt:=aD hg';subst hv;exact .inr ⟨g',cap',cur,rfl,h1,(hg.block g' hlt (fun e=>hne g' (by simp [Value.ownBlock]) e.symm)).trans hg',h2⟩
theorem aFe {C:Nat}{w0 wr W2 W8:World}{nm nv v4:Value}{ty e:TypeId}{sz n m:Nat}{xs xs':List Value}(hb:Below C w0 wr)(hC:wr.heap[C]?=some (.cells #[nm,nv] ty (0,0)))(hrow:wr.ownsRow (C+1) e sz nv n xs)(h2:Below wr.heap.size wr W2)
  (hg:W2.grownBy W8 nv.ownBlock) (ho:W8.ownsRow (C+1) e sz v4 m xs') :
  Below C w0 (W8.setCell ⟨C,1,none⟩ v4)∧(W8.setCell ⟨C,1,none⟩ v4).heap[C]?=some (.cells #[nm,v4] ty (0,0))∧(W8.setCell ⟨C,1,none⟩ v4).ownsRow (C+1) e sz v4 m xs'∧W8.heap[C]?=some (.cells #[nm,nv] ty (0,0)):=by
 have hlt:=aD hC;have hC8:W8.heap[C]?=some (.cells #[nm,nv] ty (0,0)):=(hg.block C (Nat.lt_of_lt_of_le hlt h2.size) (fun e=>by have:=(aV hrow C e.symm).1;omega)).trans ((h2.block C hlt).trans hC);exact ⟨((hb.trans (h2.mono (Nat.le_of_lt hlt))).grown hg (by have:=h2.size;omega) (fun k hk=>by have:=(aV hrow k hk).1;omega)).setCell bD v4,(aN hC8 1 v4).trans rfl,ownsRow_setCell_below ho (Nat.lt_succ_self C) v4,hC8⟩
theorem aEN (W:World)(x y:Int):(convert 22 9 (.slice (some ⟨W.heap.size,0,none⟩) 2 2)).run Tryd.prog (W.alloc (.cells #[.int .u8 x,.int .u8 y] 5))=.ok (.string (strOfNums [x,y])) (W.alloc (.cells #[.int .u8 x,.int .u8 y] 5)):=by
 refine run_convert_bytes_arg (P:=Tryd.prog) _ 22 5 Tryd.underlying22 Tryd.underlying5 W.heap.size 0 2 2 [x,y] rfl (fun k hk=>?_) 9 Tryd.underlying9;have:k=0∨k=1:=by omega
 rcases this with rfl|rfl
 · rw [cell_of_row _ _ _ _ _ (0,0) (cN W _)];rfl
 · rw [cell_of_row _ _ _ _ _ (0,0) (cN W _)];rfl
def nT (k:Nat):List ByteArray:=(List.range k).map mS
theorem aAW (k:Nat):nT (k+1)=nT k++[mS k]:=by simp [nT,List.range_succ]
theorem wK (k:Nat):(nT k).length=k:=by simp [nT]
theorem sR (k:Nat):eY (nT (k+1))=eY (nT k)++[.string (mS k)]:=by rw [aAW,uE];rfl
theorem aEq {Q:Exit→Act→World→Prop}{c:Act}{w0:World}{b i C n0 c0 z B off:Nat}{x1 x2 x3 nm:Value}(hc:FrB b i C 0 c)(hbox:w0.heap[b]?=some (.cells #[.slice (some ⟨B,off,none⟩) n0 c0,x1,x2,x3] 25 (0,0)))(hbC:b<C)(hBC:B<C)
  (hz:w0.cell? ⟨B,off+i,none⟩=some (.int .u8 z)) (hz2:z≤255) (hi:i<n0) (hC:w0.heap[C]?=some (.cells #[nm,.slice none 0 0] 86 (0,0)))
  (hQ:∀ c' w' nv,FrB b i C (z % 32+1) c'→Below C w0 w'→w'.heap[C]?=some (.cells #[nm,nv] 86 (0,0))→w'.ownsRow (C+1) 9 1 nv (z % 32+1) (eY (nT (z % 32+1)))→Q (.exit 2) c' w') :
  Code.wp Tryd.prog (Code.loop (qF 1)) Q c w0:=by
 refine wp_loop (fun c' w'=>∃ (k:Nat) (nv:Value),k≤z % 32+1∧FrB b i C k c'∧Below C w0 w'∧w'.heap[C]?=some (.cells #[nm,nv] 86 (0,0))∧w'.ownsRow (C+1) 9 1 nv k (eY (nT k)))
  (fun c' _=>z % 32+2-(intOf (c'.tmps.getD 7 undef)).toNat) ⟨0,_,Nat.zero_le _,hc,bH _ _,hC,World.ownsRow_nil _ _ _ _⟩ ?_
 clear hc hC;rintro c wr ⟨k,nv,hk,hc,hb,hC,hrow⟩;have HB:=aA hb;have HQ:=aA hQ;have HCB:=aA hC;have HROW:=aA hrow;obtain ⟨u,rfl⟩:=aBD hc;have hbx:=aE hbox hb hbC;have y0:=(aU hbx 0).trans rfl;have hq:=(hb.cell (p:=⟨B,off+i,none⟩) hBC).trans hz;have hmod:(z:Int) % 32=((z % 32:Nat):Int):=by omega
 have hz32:z % 32<32:=by omega
 obtain ⟨nva,nvc,rfl⟩:=aJ hrow;obtain ⟨hCl,c0',c1',f0,f1⟩:=mI hC;obtain ⟨i0,hi0,hzz0,hzz1,hzz2⟩:=info_parts aDg;have I1:=aA hi0;have I2:=aA hzz0;have I3:=aA hzz1;have I4:=aA hzz2;have kc:=aEN;generalize z % 32=cn at *;clear hc hQ hb hC hrow hbx hz hbox hi0 hzz0 hzz1 hzz2;conv=>arg 2;whnf
 by_cases hkl:k≤cn
 · have hsz:¬9223372036854775807<1+(strOfNums [97+(k:Int) % 26,97+(k:Int) / 26]).size:=by rw [strOfNums_size];simp
   obtain ⟨hb2,hB1,hB2⟩:=bF wr #[.int .u8 (97+(k:Int) % 26),.int .u8 (97+(k:Int) / 26)] #[.string (mS k)] 5 9;have HB2:=aA hb2;have HBB:=aA hB2;clear hb2 hB1 hB2;go_wp2_with (at_builtin;refine wpList_append_own _ rfl (.tmp 65) (.tmp 77) 84 rfl (C+1) 9 i0 _ 1 16 Tryd.underlying84 I1.out I2.out I3.out I4.out rfl (by decide) _ k (eY (nT k)) rfl (bE HB2.out HROW.out) _ 1 1 [.string (mS k)] rfl rfl (World.news_of_block HBB.out) (by intro u hu;rw [List.mem_singleton.1 hu];rfl) (by unfold maxLen;omega) (by omega) (by simp;omega) ?_;intro v4 W8 hown4 hg4 hx;clear hx;obtain ⟨s1,s2,s3,s4⟩:=aFe HB.out HCB.out HROW.out HB2.out hg4 hown4;obtain ⟨_,d0,d1,e0,e1⟩:=mI s4;have S1:=aA s1;have S2:=aA s2;have S3:=aA s3;obtain ⟨a4,m4,rfl⟩:=aJ hown4;clear s1 s2 s3 s4 hown4 hg4)
   refine ⟨⟨k+1,_,by omega,⟨rfl,rfl,rfl,rfl,rfl,rfl,rfl,rfl,rfl⟩,S1.out,S2.out,by rw [sR];exact S3.out⟩,?_⟩;show cn+2-(intOf (.int .i64 ((k:Int)+1))).toNat<cn+2-(intOf (.int .i64 (k:Int))).toNat;simp [intOf];omega
 · obtain rfl:k=cn+1:=by omega
   clear hkl;go_wp2;exact HQ.out _ _ _ ⟨rfl,rfl,rfl,rfl,rfl,rfl,rfl,rfl,rfl⟩ HB.out HCB.out HROW.out
structure dT where
 name:ByteArray
 kind:Nat
 ref:Int
 lists:Int
 dflt:Nat
structure cO where
 name:ByteArray
 fields:List dT
structure aGC where
 structs:List cO
 enums:List aX
 root:Int
def vU (f:dT):List Value:=[.string f.name,.int .u8 f.kind,.int .i64 f.ref,.int .i64 f.lists,.int .u64 f.dflt]
def kR (l:List dT):List Value:=l.flatMap vU
def uP (q:cO × Value):List Value:=[.string q.1.name,q.2]
def pE (l:List (cO × Value)):List Value:=l.flatMap uP
structure CRows (base:Nat)(W:World)(ss:List (cO × Value))(es:List (aX × Value))(sv ev:Value):Prop where
 structs:W.ownsRow base 60 2 sv ss.length (pE ss)
 enums:W.ownsRow base 86 2 ev es.length (gY es)
 fields:∀ q ∈ ss,W.ownsRow base 77 5 q.2 q.1.fields.length (kR q.1.fields)
 names:∀ q ∈ es,W.ownsRow base 9 1 q.2 q.1.names.length (eY q.1.names)
theorem CRows.below {base:Nat}{W W':World}{ss:List (cO × Value)}{es:List (aX × Value)}{sv ev:Value}(h:CRows base W ss es sv ev)(hb:Below W.heap.size W W'):CRows base W' ss es sv ev:=
 ⟨bE hb h.structs,bE hb h.enums,fun q hq=>bE hb (h.fields q hq),fun q hq=>bE hb (h.names q hq)⟩
theorem CRows.forms {base:Nat}{W:World}{ss:List (cO × Value)}{es:List (aX × Value)}{sv ev:Value}(h:CRows base W ss es sv ev):∃ sa sc ea ec,sv=.slice sa ss.length sc∧ev=.slice ea es.length ec:=by obtain ⟨sa,sc,h1⟩:=aJ h.structs;obtain ⟨ea,ec,h2⟩:=aJ h.enums;exact ⟨sa,sc,ea,ec,h1,h2⟩
def cF (f:SFld):dT:=⟨f.name,f.kind,(f.ref:Nat),(f.lists:Nat),f.dflt⟩
def cR (r:bK):cO:=⟨r.name,r.fields.map cF⟩
def cS (S:Sch):aGC:=⟨S.structs.map cR,S.enums,(S.root:Nat)⟩
theorem aDj (l:List SFld):kR (l.map cF)=eH l:=by unfold kR eH;rw [List.flatMap_map];rfl
theorem aDa (l:List (bK × Value)):pE (l.map fun q=>(cR q.1,q.2))=gD l:=by unfold pE gD;rw [List.flatMap_map];rfl
theorem SchRows.crows {base:Nat}{W:World}{ss:List (bK × Value)}{es:List (aX × Value)}{sv ev:Value}(h:SchRows base W ss es sv ev):CRows base W (ss.map fun q=>(cR q.1,q.2)) es sv ev:=by refine ⟨by rw [aDa,List.length_map];exact h.structs,h.enums,fun q hq=>?_,h.names⟩;obtain ⟨p,hp,rfl⟩:=rX.1 hq;show W.ownsRow base _ 5 p.2 (p.1.fields.map cF).length (kR (p.1.fields.map cF));rw [aDj,List.length_map];exact h.fields p hp
def cK (k:Nat)(lists:Int):Bool:=decide (lists=0)&&decide (0<aP k)
def dV (es:List aX)(k:Nat)(ref lists:Int)(n:Nat):Bool:=
 if cK k lists=false then false else if k=1 then decide (n≤1) else
  if k=10 then decide (0≤ref∧ref<es.length)&&decide (n<(es.getD ref.toNat ⟨⟨#[]⟩,[]⟩).names.length) else
   if eT k=true then decide (cG n (aP k)=n) else decide (n / 2 ^ (8 * (aP k).toNat)=0)
def gK (k:Nat)(lists:Int):Int:=if cK k lists=true then aP k else 4
def qK (f:dT):List Value:=[.int .u8 f.kind,.int .i64 f.ref,.int .i64 f.lists,.int .i64 (gK f.kind f.lists),.int .u64 f.dflt]
def iR (l:List dT):List Value:=l.flatMap qK
def sX (q:List dT × Value):List Value:=[q.2]
def iY (l:List (List dT × Value)):List Value:=l.flatMap sX
def pH (n:Nat):List Value:=[.int .i64 n]
def jY (l:List Nat):List Value:=l.flatMap pH
structure IsMsg (base:Nat)(W:World)(m:Nat)(bp:Option Addr)(bc:Nat)(sv ev:Value)(zs:List Int)(fs:List (List dT × Value))(ns:List Nat):Prop where
 blk:W.heap[m]?=some (.cells #[.slice bp zs.length bc,sv,ev] 176 (0,0))
 bytes:Bytes W bp zs
 len:zs.length≤16384
 cap:zs.length≤bc
 structs:W.ownsRow base 177 1 sv fs.length (iY fs)
 fields:∀ q ∈ fs,W.ownsRow base 180 5 q.2 q.1.length (iR q.1)
 enums:W.ownsRow base 3 1 ev ns.length (jY ns)
theorem IsMsg.below {base:Nat}{W W':World}{m:Nat}{bp:Option Addr}{bc:Nat}{sv ev:Value}{zs:List Int}{fs:List (List dT × Value)}{ns:List Nat}(h:IsMsg base W m bp bc sv ev zs fs ns)(hb:Below W.heap.size W W'):IsMsg base W' m bp bc sv ev zs fs ns:=
 ⟨aE h.blk hb (aD h.blk),h.bytes.below bD hb,h.len,h.cap,bE hb h.structs,fun q hq=>bE hb (h.fields q hq),bE hb h.enums⟩
def dD (k:Nat)(ref lists at':Int)(d:Nat)(there:Bool):Value:=.agg #[.int .u8 k,.int .i64 ref,.int .i64 lists,.int .i64 at',.int .u64 d,.bool there]
def sQ:Option Int→Value
 | none=>.tuple #[.int .i64 0,.bool false]
 | some x=>.tuple #[.int .i64 x,.bool true]
def wO (t:mO)(at':Int):Value:=.agg #[.int .i64 at',.int .i64 t.own,.int .i64 t.la,.int .i64 t.size]
theorem bB {w:World}{g:Nat}{x y z u v s:Value}{t:TypeId}(h:w.heap[g]?=some (.cells #[x,y,z,u,v,s] t (0,0))) :
  g<w.heap.size∧w.cell? ⟨g,0,none⟩=some x∧w.cell? ⟨g,1,none⟩=some y∧w.cell? ⟨g,2,none⟩=some z∧w.cell? ⟨g,3,none⟩=some u∧w.cell? ⟨g,4,none⟩=some v∧w.cell? ⟨g,5,none⟩=some s:=
 ⟨aD h,(aU h 0).trans rfl,(aU h 1).trans rfl,(aU h 2).trans rfl,(aU h 3).trans rfl,(aU h 4).trans rfl,(aU h 5).trans rfl⟩
theorem eU {w:World}{g:Nat}{x y z u v s r:Value}{t:TypeId}(h:w.heap[g]?=some (.cells #[x,y,z,u,v,s,r] t (0,0))) :
  g<w.heap.size∧w.cell? ⟨g,0,none⟩=some x∧w.cell? ⟨g,1,none⟩=some y∧w.cell? ⟨g,2,none⟩=some z∧w.cell? ⟨g,3,none⟩=some u∧w.cell? ⟨g,4,none⟩=some v∧w.cell? ⟨g,5,none⟩=some s∧w.cell? ⟨g,6,none⟩=some r:=
 ⟨aD h,(aU h 0).trans rfl,(aU h 1).trans rfl,(aU h 2).trans rfl,(aU h 3).trans rfl,(aU h 4).trans rfl,(aU h 5).trans rfl,(aU h 6).trans rfl⟩
theorem cT {w:World}{g:Nat}{x y z u v s:Value}{t:TypeId}(h:w.heap[g]?=some (.cells #[x,y,z,u,v,s] t (0,0)))(a b c d e f:Value) :
  ((((((w.setCell ⟨g,0,none⟩ a).setCell ⟨g,1,none⟩ b).setCell ⟨g,2,none⟩ c).setCell ⟨g,3,none⟩ d).setCell ⟨g,4,none⟩ e).setCell ⟨g,5,none⟩ f).heap[g]?=some (.cells #[a,b,c,d,e,f] t (0,0)):=
 by
 have h1:(w.setCell ⟨g,0,none⟩ a).heap[g]?=some (.cells #[a,y,z,u,v,s] t (0,0)):=(aN h 0 a).trans rfl;have h2:=((aN h1 1 b).trans rfl:_=some (Obj.cells #[a,b,z,u,v,s] t (0,0)));have h3:=((aN h2 2 c).trans rfl:_=some (Obj.cells #[a,b,c,u,v,s] t (0,0)));have h4:=((aN h3 3 d).trans rfl:_=some (Obj.cells #[a,b,c,d,v,s] t (0,0)));have h5:=((aN h4 4 e).trans rfl:_=some (Obj.cells #[a,b,c,d,e,s] t (0,0)));exact (aN h5 5 f).trans rfl
theorem cI {B:Nat}{a w:World}(h:Below B a w){g:Nat}(hg:B≤g)(x y z u v s:Value):Below B a ((((((w.setCell ⟨g,0,none⟩ x).setCell ⟨g,1,none⟩ y).setCell ⟨g,2,none⟩ z).setCell ⟨g,3,none⟩ u).setCell ⟨g,4,none⟩ v).setCell ⟨g,5,none⟩ s):=
 (((((h.setCell (p:=⟨g,0,none⟩) hg x).setCell (p:=⟨g,1,none⟩) hg y).setCell (p:=⟨g,2,none⟩) hg z).setCell (p:=⟨g,3,none⟩) hg u).setCell (p:=⟨g,4,none⟩) hg v).setCell (p:=⟨g,5,none⟩) hg s
theorem gQ {w:World}{g:Nat}{x y z u v s r:Value}{t:TypeId}(h:w.heap[g]?=some (.cells #[x,y,z,u,v,s,r] t (0,0)))(a b c d e f i:Value) :
  (((((((w.setCell ⟨g,0,none⟩ a).setCell ⟨g,1,none⟩ b).setCell ⟨g,2,none⟩ c).setCell ⟨g,3,none⟩ d).setCell ⟨g,4,none⟩ e).setCell ⟨g,5,none⟩ f).setCell ⟨g,6,none⟩ i).heap[g]?=some (.cells #[a,b,c,d,e,f,i] t (0,0)):=
 by
 have h1:(w.setCell ⟨g,0,none⟩ a).heap[g]?=some (.cells #[a,y,z,u,v,s,r] t (0,0)):=(aN h 0 a).trans rfl;have h2:=((aN h1 1 b).trans rfl:_=some (Obj.cells #[a,b,z,u,v,s,r] t (0,0)));have h3:=((aN h2 2 c).trans rfl:_=some (Obj.cells #[a,b,c,u,v,s,r] t (0,0)));have h4:=((aN h3 3 d).trans rfl:_=some (Obj.cells #[a,b,c,d,v,s,r] t (0,0)));have h5:=((aN h4 4 e).trans rfl:_=some (Obj.cells #[a,b,c,d,e,s,r] t (0,0)));have h6:=((aN h5 5 f).trans rfl:_=some (Obj.cells #[a,b,c,d,e,f,r] t (0,0)));exact (aN h6 6 i).trans rfl
theorem fE {B:Nat}{a w:World}(h:Below B a w){g:Nat}(hg:B≤g)(x y z u v s r:Value):Below B a (((((((w.setCell ⟨g,0,none⟩ x).setCell ⟨g,1,none⟩ y).setCell ⟨g,2,none⟩ z).setCell ⟨g,3,none⟩ u).setCell ⟨g,4,none⟩ v).setCell ⟨g,5,none⟩ s).setCell ⟨g,6,none⟩ r):=
 ((((((h.setCell (p:=⟨g,0,none⟩) hg x).setCell (p:=⟨g,1,none⟩) hg y).setCell (p:=⟨g,2,none⟩) hg z).setCell (p:=⟨g,3,none⟩) hg u).setCell (p:=⟨g,4,none⟩) hg v).setCell (p:=⟨g,5,none⟩) hg s).setCell (p:=⟨g,6,none⟩) hg r
theorem oJ (p:Option Addr)(cap:Nat)(zs:List Int)(a n:Int)(w:World)(hz:Bytes w p zs)(hl:zs.length≤16384)(h:cV (aH zs) a n=true)(hn:n=1∨n=2∨n=4∨n=8) :
  Calls Tryd.prog 129 #[.slice p zs.length cap,.int .i64 a,.int .i64 n] w fun e w'=>e=.returned (.tuple #[.int .u64 (aY zs a.toNat n.toNat),.bool true])∧w=w':=by
 have h1:=aW.1 h;unfold aH at h1;have hne:zs≠[]:=fun e=>by subst e;simp at h1;omega
 obtain ⟨b,off,rfl,_,hc⟩:=hz.2 hne;exact aEc b off zs.length cap a n w zs (by omega) bD hc hz.1 h1.1 (by omega) (by omega) hn
theorem nM (p:Option Addr)(cap:Nat)(zs:List Int)(a n:Int)(w:World)(hl:zs.length≤16384)(h:¬cV (aH zs) a n=true) :
  Calls Tryd.prog 129 #[.slice p zs.length cap,.int .i64 a,.int .i64 n] w fun e w'=>e=.returned (.tuple #[.int .u64 0,.bool false])∧w=w':=by
 refine aEF p zs.length cap a n w (by omega) ?_;have h1:=xI h;unfold aH at h1;rcases h1 with h1|h1|h1|h1
 · exact .inr (.inl h1)
 · exact .inl (by omega)
 · exact .inr (.inr (.inl h1))
 · exact .inr (.inr (.inr h1))
end
theorem xS (l a n:Int)(w:World)(hl:l≤9223372036854775807)(h0:0≤a)(h1:0≤n)(h3:n≤l-a) :
  Calls Tryd.prog 116 #[.int .i64 l,.int .i64 a,.int .i64 n] w fun e w'=>e=.returned (.bool true)∧w=w':=by
 have t1:n≤l:=by omega
 have t2:a≤l-n:=by omega
 go_enter Tryd.func116,Tryd.ntmps116;go_wp2;go_ret;exact ⟨rfl,rfl⟩
theorem aA5 (l a n:Int)(w:World)(hl0:0≤l)(hl:l≤9223372036854775807)(h:a<0∨n<0∨l<a∨l-a<n) :
  Calls Tryd.prog 116 #[.int .i64 l,.int .i64 a,.int .i64 n] w fun e w'=>e=.returned (.bool false)∧w=w':=by
 by_cases h0:a<0
 · clear h;go_enter Tryd.func116,Tryd.ntmps116;go_wp2;go_ret;exact ⟨rfl,rfl⟩
 by_cases h1:n<0
 · clear h;go_enter Tryd.func116,Tryd.ntmps116;go_wp2;go_ret;exact ⟨rfl,rfl⟩
 by_cases h2:l<n
 · clear h;go_enter Tryd.func116,Tryd.ntmps116;go_wp2;go_ret;exact ⟨rfl,rfl⟩
 have h3:decide (a≤l-n)=false:=by simp;omega
 clear h;go_enter Tryd.func116,Tryd.ntmps116;go_wp2;go_ret;exact ⟨rfl,rfl⟩
section
open Go.Shelf
section
variable {P:Program} (w:World)
theorem eD {o:Oper}{a:Act}{K:Act→World→Prop}{Q:Exit→Act→World→Prop}(s x:Operand)(t:TypeId)
  (ho:o.op=.call { callee:=.builtin .append,args:=#[s,x],argTypes:=#[t,t] }) (v y v':Value) (w':World) (hs:a.eval s=v) (hx:a.eval x=y) (hr:(Builtin.append_ #[t,t] o.type #[v,y]).run P w=.ok v' w') (h:K (a.put o.dst v') w'):o.wp P a w K Q:=by
 unfold Oper.wp execOp;simp only [ho,resolve,invoke,builtin,Sem.run_bind,Sem.run_pure,Result.andThen_ok,List.map_toArray,List.map_cons,List.map_nil,hs,hx,hr];exact h
end
end
end Go.Proofs.YtpbaaiilfkacnaaDoor
