/- The dues of what the program's Graph makes ahead: two sides, and a box for each, in whatever order (written by gen_vgr3.py). -/
import Derived.Test.YtnaebbjodfnooaaGreatDoorVTail
import Derived.Test.YtnaebbjodfnooaaGreatDoorVI10C
import Derived.Test.YtnaebbjodfnooaaGreatDoorX0A
import Derived.Test.YtnaebbjodfnooaaGreatDoorX0C
set_option maxRecDepth 100000
namespace Go.Proofs.YtnaebbjodfnooaaGreatDoor.Wp
private theorem x9_ {P:Prop} (h:P:=by
 refine ⟨Op.move (Operand.tmp 2), 26,by kernel_rfl,fun a W _ hout _=>?_⟩
 have e2:a.tmps.getD 2 undef=sv:=(hout 2 (by kernel_rfl)).trans c.h2
 simp only [execOp,Act.eval,e2]
 go_simp
 exact ⟨Below.refl _ _,rfl,fun h=>absurd h (by decide)⟩):P:=h
private theorem j10_ {P:Prop} (h:P:=by
 refine ⟨Op.alloc 74,0,by kernel_rfl,fun a W _ _ _=>?_⟩
 simp only [execOp]
 go_simp
 exact ⟨(Below.refl _ W).alloc (Nat.le_refl _) _,⟨_,rfl,Blk.new W _ _⟩,fun _=>⟨_,rfl,Nat.le_refl _,by simp⟩⟩):P:=h
open Go Go.RowKit
noncomputable def opsG:Array Oper:=regOf 3 (Tryz.f29.body.getD .skip)
def sideK (b:Nat) (c0 c1 c2 c3 c4 c5 sv:Value) (M:List Int):KindT:=⟨fun v W=>∃ (A:Option Addr) (n c:Nat),v=.agg #[c0,c1,c2,c3,c4,c5,sv,.slice A n c]∧W.ownsRow b 3 1 (.slice A n c) M.length (ints M),fun {_ _ _} h hb=>by
 obtain ⟨A,n,c,h1,h2⟩:=h;exact ⟨A,n,c,h1,W0_ h2 hb⟩⟩
structure GxC (a0:Act) (w0:World) (B1 B2:Nat) (c0 c1 c2 c3 c4 c5 d0 d1 d2 d3 d4 d5 sv:Value) (FA FB:List Int):Prop where
 h2:a0.tmps.getD 2 undef=sv
 h3:a0.tmps.getD 3 undef=.pointer (some ⟨B1,0,none⟩)
 h4:a0.tmps.getD 4 undef=.pointer (some ⟨B2,0,none⟩)
 hK:∀ W,Below w0.heap.size w0 W→W.cell? ⟨B1,0,none⟩=some c0∧W.cell? ⟨B1,1,none⟩=some c1∧W.cell? ⟨B1,2,none⟩=some c2∧W.cell? ⟨B1,3,none⟩=some c3∧W.cell? ⟨B1,4,none⟩=some c4∧W.cell? ⟨B1,5,none⟩=some c5∧W.cell? ⟨B2,0,none⟩=some d0∧W.cell? ⟨B2,1,none⟩=some d1∧W.cell? ⟨B2,2,none⟩=some d2∧W.cell? ⟨B2,3,none⟩=some d3∧W.cell? ⟨B2,4,none⟩=some d4∧W.cell? ⟨B2,5,none⟩=some d5
 hA:∀ W,Below w0.heap.size w0 W→Calls Tryz.prog 49 #[.agg #[c0,c1,c2,c3,c4,c5],sv] W (W6_ W c0 c1 c2 c3 c4 c5 sv FA)
 hB:∀ W,Below w0.heap.size w0 W→Calls Tryz.prog 49 #[.agg #[d0,d1,d2,d3,d4,d5],sv] W (W6_ W d0 d1 d2 d3 d4 d5 sv FB)
def frG (i:Nat):Bool:=i==6 || i==7
def ksG (b:Nat) (c0 c1 c2 c3 c4 c5 d0 d1 d2 d3 d4 d5 sv:Value) (FA FB:List Int):List KindT:=[.eq (.agg #[c0,c1,c2,c3,c4,c5]),.eq (sv),(sideK b c0 c1 c2 c3 c4 c5 sv FA),.eq (.agg #[d0,d1,d2,d3,d4,d5]),.eq (sv),(sideK b d0 d1 d2 d3 d4 d5 sv FB),.box 74 #[.int .i64 0,.int .i64 0,.int .i64 0,.int .i64 0,.slice none 0 0,.slice none 0 0,.slice none 0 0,.slice none 0 0],.box 74 #[.int .i64 0,.int .i64 0,.int .i64 0,.int .i64 0,.slice none 0 0,.slice none 0 0,.slice none 0 0,.slice none 0 0]]
theorem gx_0 {f:Act} {w0:World} {B1 B2:Nat} {g c1 c2 c3 c4 c5 j k m o p q r:Value} {d e:List Int} (c:GxC f w0 B1 B2 g c1 c2 c3 c4 c5 j k m o p q r d e):ObT Tryz.prog opsG (ksG w0.heap.size g c1 c2 c3 c4 c5 j k m o p q r d e) frG 8 f w0 0:=by
 refine ⟨Op.load 25 (Operand.tmp 3), 25,y37_,fun a W hb u _=>?_⟩;obtain ⟨v,w,x,y,z,B,C,D,E,F,G,H⟩:=c.hK W hb;have s:a.tmps.getD 3 undef=.pointer (some ⟨B1,0,none⟩):=(u 3 y37_).trans c.h3;simp only [execOp,Act.eval,s];go_simp;exact ⟨Below.refl _ _,rfl,fun h=>absurd h q38_⟩
theorem gx_1 {f:Act} {w0:World} {B1 B2:Nat} {g c1 c2 c3 c4 c5 j k m o p q sv:Value} {d e:List Int} (c:GxC f w0 B1 B2 g c1 c2 c3 c4 c5 j k m o p q sv d e):ObT Tryz.prog opsG (ksG w0.heap.size g c1 c2 c3 c4 c5 j k m o p q sv d e) frG 8 f w0 1:=x9_
theorem gx_2 {m:Act} {w0:World} {B1 B2:Nat} {d c1 c2 c3 c4 c5 o p q r s u g:Value} {j k:List Int} (c:GxC m w0 B1 B2 d c1 c2 c3 c4 c5 o p q r s u g j k):ObT Tryz.prog opsG (ksG w0.heap.size d c1 c2 c3 c4 c5 o p q r s u g j k) frG 8 m w0 2:=by
 refine ⟨Op.call { callee:=Callee.value (Operand.func 49),args:=#[Operand.tmp 23,Operand.tmp 24],argTypes:=#[25, 26] }, 74,y37_,fun a W hb _ v=>?_⟩;have B:a.tmps.getD 23 undef=.agg #[d,c1,c2,c3,c4,c5]:=v 0 23 y37_ y37_;have C:a.tmps.getD 24 undef=g:=v 1 24 y37_ y37_;simp only [execOp];go_simp;exact ⟨Below.refl _ _,(c.hA W hb).mono fun e D ⟨A,n,w,y,z,x⟩=>⟨_,y,x,⟨A,n,w,rfl,L.own_le z hb.size⟩,fun h=>absurd h q38_⟩⟩
theorem gx_3 {f:Act} {w0:World} {B1 B2:Nat} {g c1 c2 c3 c4 c5 j k m o p q r:Value} {d e:List Int} (c:GxC f w0 B1 B2 g c1 c2 c3 c4 c5 j k m o p q r d e):ObT Tryz.prog opsG (ksG w0.heap.size g c1 c2 c3 c4 c5 j k m o p q r d e) frG 8 f w0 3:=by
 refine ⟨Op.load 25 (Operand.tmp 4), 25,y37_,fun a W hb u _=>?_⟩;obtain ⟨v,w,x,y,z,B,C,D,E,F,G,H⟩:=c.hK W hb;have s:a.tmps.getD 4 undef=.pointer (some ⟨B2,0,none⟩):=(u 4 y37_).trans c.h4;simp only [execOp,Act.eval,s];go_simp;exact ⟨Below.refl _ _,rfl,fun h=>absurd h q38_⟩
theorem gx_4 {f:Act} {w0:World} {B1 B2:Nat} {g c1 c2 c3 c4 c5 j k m o p q sv:Value} {d e:List Int} (c:GxC f w0 B1 B2 g c1 c2 c3 c4 c5 j k m o p q sv d e):ObT Tryz.prog opsG (ksG w0.heap.size g c1 c2 c3 c4 c5 j k m o p q sv d e) frG 8 f w0 4:=x9_
theorem gx_5 {s:Act} {w0:World} {B1 B2:Nat} {u c1 c2 c3 c4 c5 d g j k m o p:Value} {q r:List Int} (c:GxC s w0 B1 B2 u c1 c2 c3 c4 c5 d g j k m o p q r):ObT Tryz.prog opsG (ksG w0.heap.size u c1 c2 c3 c4 c5 d g j k m o p q r) frG 8 s w0 5:=by
 refine ⟨Op.call { callee:=Callee.value (Operand.func 49),args:=#[Operand.tmp 26,Operand.tmp 27],argTypes:=#[25, 26] }, 74,y37_,fun a W hb _ v=>?_⟩;have B:a.tmps.getD 26 undef=.agg #[d,g,j,k,m,o]:=v 3 26 y37_ y37_;have C:a.tmps.getD 27 undef=p:=v 4 27 y37_ y37_;simp only [execOp];go_simp;exact ⟨Below.refl _ _,(c.hB W hb).mono fun e D ⟨A,n,w,y,z,x⟩=>⟨_,y,x,⟨A,n,w,rfl,L.own_le z hb.size⟩,fun h=>absurd h q38_⟩⟩
theorem gx_6 {e:Act} {w0:World} {B1 B2:Nat} {f c1 c2 c3 c4 c5 g h j k m o p:Value} {c d:List Int} (_c:GxC e w0 B1 B2 f c1 c2 c3 c4 c5 g h j k m o p c d):ObT Tryz.prog opsG (ksG w0.heap.size f c1 c2 c3 c4 c5 g h j k m o p c d) frG 8 e w0 6:=j10_
theorem gx_7 {e:Act} {w0:World} {B1 B2:Nat} {f c1 c2 c3 c4 c5 g h j k m o p:Value} {c d:List Int} (_c:GxC e w0 B1 B2 f c1 c2 c3 c4 c5 g h j k m o p c d):ObT Tryz.prog opsG (ksG w0.heap.size f c1 c2 c3 c4 c5 g h j k m o p c d) frG 8 e w0 7:=j10_
theorem E9_ {p:Nat→Prop} {n:Nat} (h:∀ i,i<n→p i) (c:p n):∀ i,i<n+1→p i:=fun i hi=>if e:i=n then e▸c else h i x37_
theorem Jx1 {f:Act} {w0:World} {B1 B2:Nat} {g c1 c2 c3 c4 c5 h k m o p q r:Value} {d e:List Int} (c:GxC f w0 B1 B2 g c1 c2 c3 c4 c5 h k m o p q r d e):∀ j,j<8→ObT Tryz.prog opsG (ksG w0.heap.size g c1 c2 c3 c4 c5 h k m o p q r d e) frG 8 f w0 j:=by
 have s:∀ j,j<0→ObT Tryz.prog opsG (ksG w0.heap.size g c1 c2 c3 c4 c5 h k m o p q r d e) frG 8 f w0 j:=fun j C=>absurd C (Nat.not_lt_zero j);have u:=E9_ s (gx_0 c);clear s;have v:=E9_ u (gx_1 c);clear u;have w:=E9_ v (gx_2 c);clear v;have x:=E9_ w (gx_3 c);clear w;have y:=E9_ x (gx_4 c);clear x;have z:=E9_ y (gx_5 c);clear y;have B:=E9_ z (gx_6 c);clear z;have D:=E9_ B (gx_7 c);clear B;exact D
end Go.Proofs.YtnaebbjodfnooaaGreatDoor.Wp
