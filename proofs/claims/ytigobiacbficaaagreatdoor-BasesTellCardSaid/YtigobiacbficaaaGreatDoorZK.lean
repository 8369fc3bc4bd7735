/- The program's match.May, and its search, walked. The program's greatest matching, walked. -/
import Derived.Test.YtigobiacbficaaaGreatDoorZA
import Derived.Deep.OwnRows
import Derived.Test.YtigobiacbficaaaGreatDoorZP
import Derived.Deep.RegionWith
import Derived.Test.YtigobiacbficaaaGreatDoorX0A
import Derived.Test.YtigobiacbficaaaGreatDoorX0B
set_option maxHeartbeats 4000000
set_option maxRecDepth 100000
open Go.Lib (hid)
open Nat (le_refl)
namespace Go.Proofs.YtigobiacbficaaaGreatDoor.Wp.K
open Go.RowKit
def okL (right:Int) (l:List Int):Bool:=mayB l && (decide (l.length=0) || decide (l.getD (l.length - 1) 0<right))
def mayM (right:Int) (adj:List (List Int)):Bool:=decide (0≤right∧right≤64) && decide (adj.length≤64) && adj.all (okL right)
theorem mayM_off {right:Int} {adj:List (List Int)} (h:right<0∨64<right∨64<(adj.length:Int)):mayM right adj=false:=k23_
theorem mayM_miss {right:Int} {adj:List (List Int)} {i:Nat} (hi:i<adj.length) (h:okL right (adj.getD i [])=false):mayM right adj=false:=by
 unfold mayM;exact z4_
theorem mayM_all {right:Int} {adj:List (List Int)} (c:¬ right<0) (h2:¬ 64<right) (h3:¬ 64<(adj.length:Int)) (h:∀ i,i<adj.length→okL right (adj.getD i [])=true):mayM right adj=true:=x34_
theorem Ze7 {right:Int} {l:List Int} (h:mayB l=false):okL right l=false:=by simp [okL,h]
theorem T0_ {right:Int} {l:List Int} (h:mayB l=true) (c:l.length=0):okL right l=true:=by simp [okL,h,c]
theorem M0_ {right x:Int} {l:List Int} (h:mayB l=true) (c:0<l.length) (hx:l.getD (l.length - 1) 0=x):okL right l=decide (x<right):=by
 unfold okL;exact q24_
theorem mayset_is (v:Value) (l:List Int) (b:Bool) (h:mayB l=b) (w:World) (hr:Row w w.heap.size v l):Calls Tryz.prog 100 #[v] w (Says w b):=y24_
theorem kmay_any (right:Int) (v:Value) (adj:List (List Int)) (w:World) (P:Rows2 w w.heap.size v adj) :
  Calls Tryz.prog 103 #[.int .i64 right,v] w (Says w (mayM right adj)):=by
 obtain ⟨A,c,rfl,_,z⟩:=P;have H:=hid z;clear z;by_cases q:right<0
 ·rw [mayM_off (.inl q)]
  exact y32_
 by_cases r:64<right
 ·rw [mayM_off (.inr (.inl r))]
  exact y32_
 by_cases s:64<(adj.length:Int)
 ·rw [mayM_off (.inr (.inr s))]
  exact y32_
 have Hall:=hid (fun h=>mayM_all (adj:=adj) q r s h)
 go_enter Tryz.func103,Tryz.ntmps103
 go_wp2
 go_loopw [20] (fun o wr=>∃ i:Nat,o=.int .i64 i∧i≤adj.length∧Below w.heap.size w wr∧∀ j,j<i→okL right (adj.getD j [])=true) (fun o _=>adj.length - (intOf o).toNat)
 case atStart=>exact ⟨0,rfl,Nat.zero_le _,Below.refl _ _,fun j D=>absurd D (Nat.not_lt_zero _)⟩
 case round =>
  obtain ⟨i,rfl,T,y,F⟩:=hrel;have Hbr:=hid y;have Hok:=hid F;clear y F;by_cases E:i<adj.length
  ·have U:(i:Int)<(adj.length:Int):=by omega
   obtain ⟨J,u,N,hab,C,k⟩:=H.out i E;subst N;have M:=(Hbr.out.cell (p:=J.add i) x42_).trans C;have Hru:=hid ((k.below Hbr.out).mono Hbr.out.size);have Hmiss:=hid (fun h=>mayM_miss (right:=right) E h);have Hnext:Hid (okL right (adj.getD i [])=true→∀ j,j<i+1→okL right (adj.getD j [])=true):=fun h j D=>x11_;clear C hab Hok;generalize adj.getD i []=l at *
   rcases hm:mayB l with _ | _
   ·have Hm:=hid hm
    obtain ⟨G,K,rfl,_⟩:=k;clear hm;rw [Hmiss.out (Ze7 Hm.out)];exact x40_
   ·have Hm:=hid hm
    obtain ⟨G,K,rfl,hcap,B⟩:=k;have I:=hid B;obtain ⟨L,d⟩:∃ L,l.length=L:=⟨_,rfl⟩;have HL:=hid d;have S:(L:Int)≤9223372036854775807:=x6_;rw [d] at M Hru;clear hm B hcap d;by_cases h0:L=0
    ·have hok1:=hid (T0_ (right:=right) Hm.out (HL.out.trans h0))
     exact x7_
    ·obtain ⟨x,m⟩:∃ x,l.getD (l.length - 1) 0=x:=⟨_,rfl⟩
     obtain ⟨al,O,halb,g⟩:=I.out (l.length - 1) k51_;have Hlast:=hid (M0_ (right:=right) Hm.out k51_ m);rw [m,HL.out] at g;subst O;have R:(0:Int)<(L:Int):=y40_;have V:IntKind.i64.wrap ((L:Int) - 1)=(L:Int) - 1:=y41_;have W:(0:Int)≤(L:Int) - 1:=y40_;have X:(L:Int) - 1<(L:Int):=y40_;have Y:((L:Int) - 1).toNat=L - 1:=y40_;clear m h0
     go_wp2_with fail
     refine (mayset_is _ l true Hm.out _ Hru.out).mono ?_;rintro e w1 ⟨rfl,hb1⟩;have Hb1:=hid (Z0_ Hbr.out (le_refl _) hb1);have Q:=(Hb1.out.cell (p:=al.add (L - 1)) q47_).trans g;clear hb1 g;by_cases hxr:x<right
     ·have hxr2:¬ right≤x:=by omega
      have Hok1:Hid (okL right l=true):=Hlast.out.trans (decide_eq_true hxr);exact q6_
     ·exact x35_
  ·exact j6_
def NumsK (w:World) (g n:Nat) (f:Nat→Int):Prop:=w.rowIs g 3 n fun i=>.int .i64 (f i)
theorem NumsK.congr {w:World} {g n:Nat} {f f':Nat→Int} (h:NumsK w g n f) (e:∀ i,i<n→f i=f' i):NumsK w g n f':=World.rowIs.congr h fun i c=>by rw [e i c]
theorem NumsK.set {w:World} {g n:Nat} {f:Nat→Int} (h:NumsK w g n f) (i:Nat) (v:Int):NumsK (w.setCell ⟨g,i,none⟩ (.int .i64 v)) g n (fun j=>if j=i then v else f j) :=
 World.rowIs.congr (World.rowIs.set h i _) fun j _=>k20_
def BitsK (w:World) (g n:Nat) (f:Nat→Bool):Prop:=w.rowIs g 4 n fun i=>.bool (f i)
theorem BitsK.set {w:World} {g n:Nat} {f:Nat→Bool} (h:BitsK w g n f) (i:Nat):BitsK (w.setCell ⟨g,i,none⟩ (.bool true)) g n (fun j=>if j=i then true else f j) :=
 World.rowIs.congr (World.rowIs.set h i _) fun j _=>k20_
theorem BitsK.below {w w':World} {g n:Nat} {f:Nat→Bool} (h:BitsK w g n f) (hb:Below w.heap.size w w'):BitsK w' g n f:=World.rowIs.of_block h (hb.block g (World.rowIs.lt h))
theorem NumsK.below {w w':World} {g n:Nat} {f:Nat→Int} (h:NumsK w g n f) (hb:Below w.heap.size w w'):NumsK w' g n f:=World.rowIs.of_block h (hb.block g (World.rowIs.lt h))
theorem Vj1:(Tryz.prog.info? 4).map (fun i=>(i.zero,i.size,i.bytes))=some (some (.bool false),1,1):=z40_
theorem Vj2 (n:Nat) (w:World) (C:n≤64) :
  Calls Tryz.prog 130 #[.int .i64 n] w fun e w'=>e=.returned (.slice (some ⟨w.heap.size,0,none⟩) n n)∧NumsK w' w.heap.size n (fun _=>-1)∧Below w.heap.size w w':=by
 have v:=fun W=>run_make_row' 28 3 (.int .i64 0) 8 Tryz.underlying28 info3 rfl .i64 .i64 n y40_ y40_ W;have k:Hid (NumsK (w.alloc (.cells (madeCells #[.int .i64 0] n) 3)) w.heap.size n (fun j=>if j<0 then -1 else 0)) :=
  World.rowIs.congr (World.rowIs_made w (.int .i64 0) n 3) fun i _=>by simp
 have g:=hid ((Below.refl w.heap.size w).alloc (le_refl _) (.cells (madeCells #[.int .i64 0] n) 3))
 go_enter Tryz.func130,Tryz.ntmps130
 go_wp2
 go_loopw [9] (fun d wr=>∃ i:Nat,d=.int .i64 i∧i≤n∧NumsK wr w.heap.size n (fun j=>if j<i then -1 else 0)∧Below w.heap.size w wr) (fun d _=>n - (intOf d).toNat)
 case atStart=>exact ⟨0,rfl,Nat.zero_le _,k.out,g.out⟩
 case round =>
  clear k g v;obtain ⟨i,rfl,z,hs,o⟩:=hrel;have c:=hid hs;have h:=hid o;clear hs o;by_cases u:i<n
  ·have B:(i:Int)<(n:Int):=by omega
   have x:=World.rowIs.cell c.out u;have y:wr.frozen? ⟨w.heap.size,i,none⟩=false:=World.rowIs.frozen c.out i;go_wp2
   go_roundw
   case rel =>
    refine ⟨i+1,j41_,y40_,(c.out.set i (-1)).congr fun j _=>?_,h.out.setCell (p:=⟨w.heap.size,i,none⟩) (le_refl _) _⟩;by_cases e:j=i
    ·rw [if_pos e,if_pos y40_]
    ·rw [if_neg e]
     by_cases m:j<i
     ·rw [if_pos m,if_pos y40_]
     ·rw [if_neg m,if_neg y40_]
   case measure=>simp [intOf];omega
  ·have r:i=n:=by omega
   subst r;have q:=hid (c.out.congr (f':=fun _=>-1) fun j s=>by rw [if_pos s]);clear c;go_wp2;go_ret;exact ⟨rfl,q.out,h.out⟩
def ReachF (w:World) (f:Value) (bx g R:Nat) (al:Nat→Bool):Prop :=
 f=.func (.func 158) #[] #[.pointer (some ⟨bx,0,none⟩)]∧w.cell? ⟨bx,0,none⟩=some (.slice (some ⟨g,0,none⟩) R R)∧BitsK w g R al∧bx≠g∧bx<w.heap.size
theorem Zj8 (R:Nat) (w:World) (h:R≤64) :
  Calls Tryz.prog 132 #[.int .i64 R] w fun e w'=>∃ f c g,e=.returned f∧ReachF w' f c g R (fun _=>false)∧w.heap.size≤c∧w.heap.size≤g∧Below w.heap.size w w':=by
 have j:=fun W=>run_make_row' 158 4 (.bool false) 1 Tryz.underlying158 Vj1 rfl .i64 .i64 R y40_ y40_ W;have d:Hid (BitsK (w.alloc (.cells (madeCells #[.bool false] R) 4)) w.heap.size R (fun _=>false)):=World.rowIs_made w (.bool false) R 4
 go_enter Tryz.func132,Tryz.ntmps132
 go_wp2;go_ret;refine ⟨_,w.heap.size+1,w.heap.size,rfl,⟨rfl,?_,d.out.below ((Below.refl _ _).alloc (le_refl _) _),y40_,k40_⟩,y40_,le_refl _,((Below.refl _ w).alloc (le_refl _) _).alloc k40_ _⟩;have:=(Blk.new (w.alloc (.cells (madeCells #[.bool false] R) 4)) 158 #[.slice (some ⟨w.heap.size,0,none⟩) R R]).cell 0
 rwa [show (w.alloc (.cells (madeCells #[.bool false] R) 4)).heap.size=w.heap.size+1 by simp] at this
theorem ReachF.slot {w:World} {f:Value} {c g R:Nat} {al:Nat→Bool} (h:ReachF w f c g R al) (r:Nat):ReachF (w.setCell ⟨g,r,none⟩ (.bool true)) f c g R (fun x=>if x=r then true else al x):=by
 obtain ⟨e,h2,h3,d,j⟩:=h;refine ⟨e,?_,h3.set r,d,by simpa [World.setCell] using j⟩;have:(w.setCell ⟨g,r,none⟩ (.bool true)).cell? ⟨c,0,none⟩=w.cell? ⟨c,0,none⟩:=World.cell?_of_block (Below.heap_setCell w ⟨g,r,none⟩ _ c (by simpa using d));rw [this];exact h2
theorem ReachF.below {w w':World} {f:Value} {c g R:Nat} {al:Nat→Bool} (h:ReachF w f c g R al) (hb:Below w.heap.size w w'):ReachF w' f c g R al:=by
 obtain ⟨e,h2,h3,j,d⟩:=h;exact ⟨e,(hb.cell (p:=⟨c,0,none⟩) d).trans h2,h3.below hb,j,Nat.lt_of_lt_of_le d hb.size⟩
theorem Yi5 (r R c g:Nat) (f:Value) (al:Nat→Bool) (w:World) (h:ReachF w f c g R al) (d:r<R) :
  Calls Tryz.prog 158 #[.int .i64 r,.pointer (some ⟨c,0,none⟩)] w fun e w'=>e=.returned (.bool (al r))∧w'=w.setCell ⟨g,r,none⟩ (.bool true):=by
 obtain ⟨_,h2,h3,_,_⟩:=h;have j:=World.rowIs.cell h3 d;have k:w.frozen? ⟨g,r,none⟩=false:=World.rowIs.frozen h3 r;have m:(r:Int)<(R:Int):=y40_;clear h3
 go_enter Tryz.func158,Tryz.ntmps158
 go_wp2;go_ret;exact ⟨rfl,rfl⟩
theorem Xv4 (r R c g:Nat) (f:Value) (al:Nat→Bool) (b:Bool) (hb:al r=b) (w:World) (h:ReachF w f c g R al) (d:r<R) :
  Calls Tryz.prog 158 #[.int .i64 r,.pointer (some ⟨c,0,none⟩)] w fun e w'=>e=.returned (.bool b)∧w'=w.setCell ⟨g,r,none⟩ (.bool true):=by
 subst hb;exact Yi5 r R c g f al w h d
structure GS (w:World) (adjv:Value) (adj:List (List Int)) (B gh go g bx R:Nat) (f:Value) (hs os:Nat→Int) (al:Nat→Bool):Prop where
 rows:Rows2 w B adjv adj
 h:NumsK w gh adj.length hs
 o:NumsK w go R os
 r:ReachF w f bx g R al
 bh:B≤gh
 bo:B≤go
 bg:B≤g
 bb:B≤bx
 ho:gh≠go
 hg:gh≠g
 og:go≠g
 hb:gh≠bx
 ob:go≠bx
structure Only3 (gh go g:Nat) (w w':World):Prop where
 os:w'.os=w.os
 tape:w'.tape=w.tape
 output:w'.output=w.output
 size:w.heap.size≤w'.heap.size
 block:∀ b,b<w.heap.size→b≠gh→b≠go→b≠g→w'.heap[b]?=w.heap[b]?
theorem Only3.refl (gh go g:Nat) (w:World):Only3 gh go g w w:=⟨rfl,rfl,rfl,le_refl _,fun _ _ _ _ _=>rfl⟩
theorem Only3.below {gh go g B:Nat} {w w':World} (h:Only3 gh go g w w') (d:B≤w.heap.size) (c:B≤gh) (h2:B≤go) (h3:B≤g):Below B w w' :=
 ⟨h.os,h.tape,h.output,h.size,fun b hb=>h.block b y40_ y40_ y40_ y40_⟩
theorem Only3.trans {gh go g:Nat} {a b c:World} (h:Only3 gh go g a b) (k:Only3 gh go g b c):Only3 gh go g a c :=
 ⟨k.os.trans h.os,k.tape.trans h.tape,k.output.trans h.output,Nat.le_trans h.size k.size,fun i e d h2 h3=>(k.block i (Nat.lt_of_lt_of_le e h.size) d h2 h3).trans (h.block i e d h2 h3)⟩
theorem Only3.of_below {gh go g:Nat} {w w':World} (h:Below w.heap.size w w'):Only3 gh go g w w':=⟨h.os,h.tape,h.output,h.size,fun b hb _ _ _=>h.block b hb⟩
theorem GS.below {w w':World} {c:Value} {adj:List (List Int)} {B gh go g d R:Nat} {f:Value} {hs os:Nat→Int} {al:Nat→Bool} (h:GS w c adj B gh go g d R f hs os al) (e:B≤w.heap.size) (hb:Below w.heap.size w w'):GS w' c adj B gh go g d R f hs os al :=
 ⟨h.rows.below (hb.mono e),h.h.below hb,h.o.below hb,h.r.below hb,h.bh,h.bo,h.bg,h.bb,h.ho,h.hg,h.og,h.hb,h.ob⟩
theorem NumsK.at {w:World} {g n:Nat} {f:Nat→Int} (h:NumsK w g n f) {i:Nat} (c:i<n):w.cell? ⟨g,i,none⟩=some (.int .i64 (f i)):=World.rowIs.cell h c
theorem GS.asked {w:World} {c:Value} {adj:List (List Int)} {B gh go g d R:Nat} {f:Value} {hs os:Nat→Int} {al:Nat→Bool} (h:GS w c adj B gh go g d R f hs os al) (r:Nat) :
  GS (w.setCell ⟨g,r,none⟩ (.bool true)) c adj B gh go g d R f hs os (updB al r) where
 rows:=h.rows.below ((Below.refl B w).setCell (p:=⟨g,r,none⟩) h.bg _)
 h:=World.rowIs.of_block h.h (Below.heap_setCell w ⟨g,r,none⟩ _ gh h.hg)
 o:=World.rowIs.of_block h.o (Below.heap_setCell w ⟨g,r,none⟩ _ go h.og)
 r:=h.r.slot r
 bh:=h.bh
 bo:=h.bo
 bg:=h.bg
 bb:=h.bb
 ho:=h.ho
 hg:=h.hg
 og:=h.og
 hb:=h.hb
 ob:=h.ob
theorem E5_ {gh go g:Nat} {w w':World} (h:Only3 gh go g w w') (b r:Nat) (v:Value) (hb:b=gh∨b=go∨b=g):Only3 gh go g w (w'.setCell ⟨b,r,none⟩ v) :=
 ⟨h.os,h.tape,h.output,by simpa [World.setCell] using h.size,fun c hc d h2 h3=>(Below.heap_setCell w' ⟨b,r,none⟩ v c (by
  show c≠b;rcases hb with e | e | e<;>rw [e]<;>assumption)).trans (h.block c hc d h2 h3)⟩
theorem GS.gave {w:World} {d:Value} {adj:List (List Int)} {B gh go g c R:Nat} {f:Value} {hs os:Nat→Int} {al:Nat→Bool} (h:GS w d adj B gh go g c R f hs os al) (i r:Nat) :
  GS ((w.setCell ⟨gh,i,none⟩ (.int .i64 r)).setCell ⟨go,r,none⟩ (.int .i64 i)) d adj B gh go g c R f (updI hs i r) (updI os r i) al where
 rows:=(h.rows.below ((Below.refl B w).setCell (p:=⟨gh,i,none⟩) h.bh _)).below ((Below.refl B _).setCell (p:=⟨go,r,none⟩) h.bo _)
 h:=World.rowIs.of_block (h.h.set i r) (Below.heap_setCell _ ⟨go,r,none⟩ _ gh h.ho)
 o:=NumsK.set (World.rowIs.of_block h.o (Below.heap_setCell w ⟨gh,i,none⟩ _ go (fun e=>h.ho e.symm))) r i
 r:=by
  obtain ⟨m,h2,h3,q,s⟩:=h.r;refine ⟨m,?_,World.rowIs.of_block (World.rowIs.of_block h3 (Below.heap_setCell w ⟨gh,i,none⟩ _ g (fun e=>h.hg e.symm))) (Below.heap_setCell _ ⟨go,r,none⟩ _ g (fun e=>h.og e.symm)),q,by simpa [World.setCell] using s⟩;have j:((w.setCell ⟨gh,i,none⟩ (.int .i64 r)).setCell ⟨go,r,none⟩ (.int .i64 i)).cell? ⟨c,0,none⟩=(w.setCell ⟨gh,i,none⟩ (.int .i64 r)).cell? ⟨c,0,none⟩:=World.cell?_of_block (Below.heap_setCell _ ⟨go,r,none⟩ _ c (fun e=>h.ob e.symm));have k:(w.setCell ⟨gh,i,none⟩ (.int .i64 r)).cell? ⟨c,0,none⟩=w.cell? ⟨c,0,none⟩:=World.cell?_of_block (Below.heap_setCell _ ⟨gh,i,none⟩ _ c (fun e=>h.hb e.symm));rw [j,k];exact h2
 bh:=h.bh
 bo:=h.bo
 bg:=h.bg
 bb:=h.bb
 ho:=h.ho
 hg:=h.hg
 og:=h.og
 hb:=h.hb
 ob:=h.ob
def Gave (w:World) (adjv:Value) (adj:List (List Int)) (B gh go g bx R i:Nat) (f:Value) (hs os:Nat→Int) (al:Nat→Bool) (e:Ending) (w':World):Prop :=
 ∃ (b:Bool) (hs' os':Nat→Int) (al':Nat→Bool),e=.returned (.bool b)∧GS w' adjv adj B gh go g bx R f hs' os' al'∧Only3 gh go g w w' ∧
  (b=true→Found R adj hs os al i hs' os')∧(b=false→hs'=hs∧os'=os∧Missed adj os al i al')
theorem wpAny_act {P:Program} {d:Region.Mode} {ops:Array Oper} {Q:Exit→Act→World→Prop} {fuel:Nat} {c:Array Bool} {a b:Act} {w:World} (h:a=b) (k:wpAny P d ops Q fuel c b w):wpAny P d ops Q fuel c a w:=h▸k
theorem wpAny_n {P:Program} {d:Region.Mode} {ops:Array Oper} {Q:Exit→Act→World→Prop} {fuel:Nat} {c:Array Bool} {a b:Act} {w:World} (k:wpAny P d ops Q fuel c b w) (h:a=b:=by (go_simp;with_reducible rfl)):wpAny P d ops Q fuel c a w:=h▸k
theorem wpAny_t (i:Nat) {P:Program} {e:Region.Mode} {ops:Array Oper} {Q:Exit→Act→World→Prop} {fuel:Nat} {d:Array Bool} {f:Oper} {v:Value} {a b:Act} {w:World} (k:wpAny P e ops Q fuel (d.setIfInBounds i true) b w) (m:ops[i]?=some f:=by rfl) (hs:Region.noSelect ops=true:=by kernel_rfl) (j:Region.free e ops d i=true:=by kernel_rfl) (o:(Region.ready e ops d).contains i=true:=by kernel_rfl) (g:∀ c a w,Q (.panic c) (a.put f.dst v) w→Q (.panic c) a w:=by exact fun _ _ _ h=>h) (p:Yields P ops f v a:=by (refine Or.inl ⟨by first | rfl | (simp [Region.wanted,yielded,go_sem,undef];done) | (simp [Region.wanted,yielded,go_sem,undef];omega),?_⟩;intro w;go_simp;try with_reducible rfl)) (h:a.put f.dst v=b:=by (go_simp;with_reducible rfl)):wpAny P e ops Q (fuel+1) d a w:=wpAny_take (i:=i) m hs j o g p (h▸k)
theorem wpAny_u (i:Nat) {P:Program} {e:Region.Mode} {ops:Array Oper} {Q:Exit→Act→World→Prop} {fuel:Nat} {d:Array Bool} {f:Oper} {a b:Act} {w:World} (k:wpAny P e ops Q fuel (d.setIfInBounds i true) b w) (m:ops[i]?=some f:=by rfl) (hs:Region.noSelect ops=true:=by kernel_rfl) (j:Region.free e ops d i=true:=by kernel_rfl) (o:(Region.ready e ops d).contains i=true:=by kernel_rfl) (g:∀ c a w,Q (.panic c) (a.put f.dst undef) w→Q (.panic c) a w:=by exact fun _ _ _ h=>h) (p:Yields P ops f undef a:=by exact Or.inr ⟨by first | (simp [Region.wanted,yielded,go_sem,undef];done) | (simp [Region.wanted,yielded,go_sem,undef];omega),rfl⟩) (h:a.put f.dst undef=b:=by (go_simp;with_reducible rfl)):wpAny P e ops Q (fuel+1) d a w:=wpAny_take (i:=i) m hs j o g p (h▸k)
theorem Xk0 {p q:Nat→Bool} (r:Nat) (c:p r=false) (d:q r=true):∀ {n:Nat},r<n→(∀ i,i<n→p i=true→q i=true)→cntP n p<cntP n q
 | n+1,hr,h=>by
  rw [C1_,C1_];by_cases e:r=n
  ·subst e
   have:=Zc8 (n:=r) fun i f=>h i y40_;rw [c,d];simp;omega
  ·have g:=Xk0 r c d (n:=n) y40_ fun i f=>h i y40_
   have:=h n y40_;cases hp':p n
   ·simp;omega
   ·simp [this hp'];omega
theorem below_drew (w:World):Below w.heap.size w w.drew:=⟨rfl,rfl,rfl,le_refl _,fun _ _=>rfl⟩
theorem Ze8 {gh go g:Nat} {w w':World} (h:Only3 gh go g w w'):Only3 gh go g w w'.drew:=⟨h.os,h.tape,h.output,h.size,h.block⟩
theorem Zx1 {gh go g:Nat} {w w':World} (h:Only3 gh go g w w') (n:Nat):Only3 gh go g w (w'.drewN n):=⟨h.os,h.tape,h.output,h.size,h.block⟩
theorem Vj3 (B gh go g H R:Nat) (adj:List (List Int)) (x4:Value) (f:Value) (y5:OnR R adj) (m:Nat):∀ (w:World) (i:Nat) (hs os:Nat→Int) (al:Nat→Bool),GS w x4 adj B gh go g H R f hs os al→B≤w.heap.size→i<adj.length→Pairs R adj hs os→(hs i=-1∨∃ q:Nat,hs i=(q:Int)∧al q=true)→cntP R (fun r=>!al r)<m →
  Calls Tryz.prog 131 #[.agg #[x4,.slice (some ⟨gh,0,none⟩) adj.length adj.length,.slice (some ⟨go,0,none⟩) R R],.int .i64 i,f] w (Gave w x4 adj B gh go g H R i f hs os al):=by
 induction m with
 | zero=>intro w i hs os al _ _ _ _ _ hm;omega
 | succ m ih =>
 intro w i hs os al hS y Q hP xq hm;have s:=hid hS;have U:=hid hP;have y0:=hid xq;have Hm:=hid hm;have xx:=hid ih;clear ih hP xq hm;obtain ⟨rfl,xi,_,_,_⟩:=hS.r;obtain ⟨A,c,hv,yk,xj⟩:=hS.rows;subst hv;obtain ⟨O,u,hA,yj,x0,yf⟩:=xj i Q;subst hA;obtain ⟨Au,cu,rfl,x9,x8⟩:=yf;obtain ⟨l,hl⟩:∃ l,adj.getD i []=l:=⟨_,rfl⟩;rw [hl] at x0 x8 x9;have ys:(l.length:Int)≤9223372036854775807:=by
  have h1:=x9.1;have h2:=x9.2.1;unfold maxLen at h2;omega
 have Hl:=hid hl;have y2:=hid x8;have yi:=hid x0;have yl:=World.rowIs.lt s.out.h;have yn:=World.rowIs.lt s.out.o;have yo:=World.rowIs.lt s.out.r.2.2.1;obtain ⟨C,P⟩:∃ C,C=w.alloc (.cells #[.slice (some O) adj.length c,.slice (some ⟨gh,0,none⟩) adj.length adj.length,.slice (some ⟨go,0,none⟩) R R] 111):=⟨_,rfl⟩;have x2:Hid (Below w.heap.size w C):=by rw [P];exact (Below.refl _ w).alloc (le_refl _) _
 have xc:=hid (s.out.below y x2.out);have xu:Hid (∀ j,C.cell? ⟨w.heap.size,j,none⟩=#[.slice (some O) adj.length c,.slice (some ⟨gh,0,none⟩) adj.length adj.length,.slice (some ⟨go,0,none⟩) R R][j]?):=by
  intro j;rw [P];exact (Blk.new w _ _).cell j
 have c0:=(x2.out.cell (p:=O.add i) (by rw [Z2_];omega)).trans x0;have yp:(i:Int)<(adj.length:Int):=y40_;have HE:=hid P;rw [P] at c0;have yg:Hid (C.heap.size=w.heap.size+1):=by show _=_;rw [P];simp
 clear hS xj x8 hl x0
 go_enter Tryz.func131,Tryz.ntmps131
 go_wp2;rw [← HE.out];clear P c0
 go_loopw [15] (fun vi wr=>∃ (k:Nat) (al':Nat→Bool),vi=.int .i64 k∧k≤l.length∧GS wr (.slice (some O) adj.length c) adj B gh go g H R (.func (.func 158) #[] #[.pointer (some ⟨H,0,none⟩)]) hs os al'∧Tried adj os al i k al'∧Only3 gh go g C wr) (fun vi _=>l.length - (intOf vi).toNat)
 case atStart=>exact ⟨0,al,rfl,Nat.zero_le _,xc.out,Xy7,Only3.refl _ _ _ _⟩
 case round =>
  obtain ⟨k,al',rfl,hk,xl,xr,xp⟩:=hrel;have E:=hid xl;have N:=hid xr;have L:=hid xp;clear xl xr xp xc;have D:=hid (Only3.of_below (gh:=gh) (go:=go) (g:=g) x2.out |>.trans L.out);by_cases S:k<l.length
  ·obtain ⟨y3,y4,y7,x5⟩:=y2.out k S
   subst y4;obtain ⟨r,hr,z⟩:=y5 i (l.getD k 0) (by rw [Hl.out];simp [List.getD,S]);have x3:Hid ((adj.getD i [])[k]?=some (r:Int)):=by
    show _=_;rw [Hl.out,List.getElem?_eq_getElem S,← hr];simp [List.getD,S]
   rw [hr] at x5;have xt:Hid (Below B w wr):=D.out.below y s.out.bh s.out.bo s.out.bg;have g0:wr.cell? (y3.add k)=some (.int .i64 (r:Int)):=(xt.out.cell (by rw [Z2_];exact y7)).trans x5;have v:Hid (∀ W,Only3 gh go g C W→∀ j,W.cell? ⟨w.heap.size,j,none⟩=#[.slice (some O) adj.length c,.slice (some ⟨gh,0,none⟩) adj.length adj.length,.slice (some ⟨go,0,none⟩) R R][j]?):=fun W hW j =>
    (World.cell?_of_block (hW.block w.heap.size (by have:=yg.out;omega) y40_ y40_ y40_)).trans (xu.out j)
   have yr:(k:Int)<(l.length:Int):=y40_;clear x5 hr;have X:=v.out _ L.out 0;have Y:=v.out _ L.out 1;have Z:=v.out _ L.out 2;have xg:=hid (fun (W:World) (b:Bool) (h:al' r=b) (hW:GS W (.slice (some O) adj.length c) adj B gh go g H R (.func (.func 158) #[] #[.pointer (some ⟨H,0,none⟩)]) hs os al')=>Xv4 r R H g _ al' b h W hW.r z);have I:=NumsK.at E.out.o z;have ym:go<wr.heap.size:=World.rowIs.lt E.out.o;clear xi;have yt:(r:Int)<(R:Int):=y40_;rcases ha:al' r with _ | _
   ·have F:=hid ha
    clear ha;have xa:=hid (E.out.asked r);have yh:=hid (E5_ D.out g r (.bool true) (.inr (.inr rfl)));go_wp2;refine wp_region_any z40_ ?_;change wpAny _ _ _ _ _ _ _ (World.drew _);refine wpAny_t 0 ?_;refine wpAny_t 1 ?_;refine wpAny_ready (rs:=[2]) z40_ k40_ ?_;refine AllReady.cons rfl (fun K d=>?_) AllReady.nil;go_simp;refine (xg.out _ _ F.out (E.out.below (Nat.le_trans y D.out.size) (Y2_ (Below.refl _ _) 1))).mono ?_;rintro e w' ⟨rfl,rfl⟩;refine d _ _ ?_;clear d K;refine wpAny_t 3 ?_;refine wpAny_t 4 ?_;refine wpAny_t 5 ?_;refine wpAny_t 7 ?_;have M:Hid (Only3 gh go g C ((wr.drewN 1).setCell ⟨g,r,none⟩ (.bool true))):=E5_ (Zx1 L.out 1) g r _ (.inr (.inr rfl));have G:=hid ((E.out.below (Nat.le_trans y D.out.size) (Y2_ (Below.refl _ _) 1)).asked r);have x1:Hid (Only3 gh go g w ((wr.drewN 1).setCell ⟨g,r,none⟩ (.bool true))):=E5_ (Zx1 D.out 1) g r _ (.inr (.inr rfl));have xd:Hid (w.heap.size≤((wr.drewN 1).setCell ⟨g,r,none⟩ (.bool true)).heap.size):=x1.out.size;have xe:Hid (al r=false):=by
     show _=_;rcases h:al r with _ | _
     ·rfl
     ·have:=N.out.up r h
      rw [F.out] at this;cases this
    have xf:Hid (Goes adj i r):=List.mem_iff_getElem?.2 ⟨k,x3.out⟩;have xv:Hid (cntP R (fun x=>!updB al' r x)<m):=by
     have h1:cntP R (fun x=>!updB al' r x)<cntP R (fun x=>!al x):=Xk0 r (by simp [updB]) (by simp [xe.out]) z fun x _ T=>by
      rcases h:al x with _ | _
      ·rfl
      ·have h2:=N.out.up x h
       unfold updB at T;split at T
       ·cases T
       ·rw [h2] at T;cases T
     have:=Hm.out;show _<_;omega
    clear g0 X Y Z I;generalize y6:(wr.drewN 1).setCell ⟨g,r,none⟩ (.bool true)=w2 at *
    clear y6;have X:=v.out _ M.out 0;have Y:=v.out _ M.out 1;have Z:=v.out _ M.out 2;have I:=NumsK.at G.out.o z;refine wpAny_ready (rs:=[6]) z40_ k40_ ?_;refine AllReady.cons rfl (fun K d=>?_) AllReady.nil;go_simp;refine d _ _ ?_;clear d K;refine wpAny_t 8 ?_;refine wpAny_ready (rs:=[9]) z40_ k40_ ?_;refine AllReady.cons rfl (fun K d=>?_) AllReady.nil;go_simp;refine d _ _ ?_;clear d K;by_cases ho:os r=-1
    ·rw [ho]
     clear I;refine wpAny_t 10 ?_;refine wpAny_t 11 ?_;refine wpAny_u 12 ?_;refine wpAny_u 13 ?_;refine wpAny_u 14 ?_;refine wpAny_u 15 ?_;refine wpAny_u 16 ?_;refine wpAny_u 17 ?_;refine wpAny_u 18 ?_;refine wpAny_u 19 ?_;refine wpAny_t 20 ?_;refine wpAny_t 21 ?_;refine wpAny_done z40_ ?_ _;go_wp2;have y8:w.heap.size≠gh:=y40_;have y9:w.heap.size≠go:=y40_;have yc:gh≠go:=s.out.ho;have g5:=NumsK.at G.out.h Q;have I:=NumsK.at G.out.o z;have ya:w2.frozen? ⟨gh,i,none⟩=false:=World.rowIs.frozen G.out.h i;have yb:w2.frozen? ⟨go,r,none⟩=false:=World.rowIs.frozen G.out.o r
     go_region
     go_wp2;go_ret;exact ⟨true,updI hs i r,updI os r i,updB al' r,rfl,(G.out.gave i r).below (Nat.le_trans (Nat.le_trans y xd.out) (by simp [World.setCell])) (below_drew _),Ze8 (E5_ (E5_ x1.out gh i _ (.inl rfl)) go r _ (.inr (.inl rfl))),fun _=>Xy8 U.out Q z xf.out ho xe.out,fun h=>by cases h⟩
    ·obtain ⟨j,hj,x6,yd⟩:=(U.out.r r z).resolve_left ho
     rw [x6] at I ⊢;have yq:¬ ((j:Int)=-1):=y40_;refine wpAny_t 10 ?_;refine wpAny_t 11 ?_;refine wpAny_t 13 ?_;refine wpAny_t 15 ?_;refine wpAny_t 18 ?_;refine wpAny_ready (rs:=[12,14]) z40_ k40_ ?_;refine AllReady.cons rfl (fun K d=>?_) (AllReady.cons rfl (fun K d=>?_) AllReady.nil);go_simp;refine d _ _ ?_;clear d K;refine wpAny_ready (rs:=[14]) z40_ k40_ ?_;refine AllReady.cons rfl (fun K d=>?_) AllReady.nil;go_simp;refine d _ _ ?_;clear d K;refine wpAny_t 16 ?_;refine wpAny_ready (rs:=[17]) z40_ k40_ ?_;refine AllReady.cons rfl (fun K d=>?_) AllReady.nil;go_simp;refine d _ _ ?_;clear d K;rotate_left;go_simp;refine d _ _ ?_;clear d K;refine wpAny_t 16 ?_;refine wpAny_ready (rs:=[12,17]) z40_ k40_ ?_;refine AllReady.cons rfl (fun K d=>?_) (AllReady.cons rfl (fun K d=>?_) AllReady.nil);go_simp;refine d _ _ ?_;clear d K;refine wpAny_ready (rs:=[17]) z40_ k40_ ?_;refine AllReady.cons rfl (fun K d=>?_) AllReady.nil;go_simp;refine d _ _ ?_;clear d K;rotate_left;go_simp;refine d _ _ ?_;clear d K;refine wpAny_ready (rs:=[12]) z40_ k40_ ?_;refine AllReady.cons rfl (fun K d=>?_) AllReady.nil;go_simp;refine d _ _ ?_;clear d K
     all_goals
      refine wpAny_ready (rs:=[19]) z40_ k40_ ?_;refine AllReady.cons rfl (fun K d=>?_) AllReady.nil;go_simp;refine (xx.out w2 j hs os (updB al' r) G.out (Nat.le_trans y xd.out) hj U.out (.inr ⟨r,yd,if_pos rfl⟩) xv.out).mono ?_;rintro e w3 ⟨b,hs',os',xh,rfl,xm,x7,xk,xn⟩;refine d _ _ ?_;clear d K;have J:=hid xm;have V:=hid (M.out.trans x7);have xb:=hid (x1.out.trans x7);have xs:Hid (w.heap.size≤w3.heap.size):=xb.out.size;have xw:=hid xk;have xy:=hid xn;clear xm x7 xk xn X Y Z I;have X:=v.out _ V.out 0;have Y:=v.out _ V.out 1;have Z:=v.out _ V.out 2;rcases b with _ | _
      ·obtain ⟨rfl,rfl,xo⟩:=xy.out rfl
       have xz:=hid xo;clear xo;refine wpAny_t 20 ?_;refine wpAny_t 21 ?_;refine wpAny_done z40_ ?_ _;go_wp2
       go_roundw
       case rel=>exact ⟨k+1,xh,j41_,y40_,J.out,N.out.miss x3.out x6 xz.out,V.out⟩
       exact mz_
      ·have Hfound:=hid (xw.out rfl)
       refine wpAny_t 20 ?_;refine wpAny_t 21 ?_;refine wpAny_done z40_ ?_ _;go_wp2;have y8:w.heap.size≠gh:=y40_;have y9:w.heap.size≠go:=y40_;have yc:gh≠go:=s.out.ho;have g5:=NumsK.at J.out.h Q;have I:=NumsK.at J.out.o z;have ya:w3.frozen? ⟨gh,i,none⟩=false:=World.rowIs.frozen J.out.h i;have yb:w3.frozen? ⟨go,r,none⟩=false:=World.rowIs.frozen J.out.o r
       go_region
       go_wp2;go_ret;exact ⟨true,updI hs' i r,updI os' r i,xh,rfl,(J.out.gave i r).below (Nat.le_trans (Nat.le_trans y xs.out) (by simp [World.setCell])) (below_drew _),Ze8 (E5_ (E5_ xb.out gh i _ (.inl rfl)) go r _ (.inr (.inl rfl))),fun _=>Xy9 U.out Q y0.out z xf.out x6 N.out.up F.out Hfound.out,fun h=>by cases h⟩
   ·have F:=hid ha
    clear ha;have xa:=hid ((E.out.below (Nat.le_trans y D.out.size) (Y2_ (Below.refl _ _) 1)).asked r);have M:Hid (Only3 gh go g C ((wr.drewN 1).setCell ⟨g,r,none⟩ (.bool true))):=E5_ (Zx1 L.out 1) g r _ (.inr (.inr rfl));have y1:Hid (updB al' r=al'):=funext fun x=>by
     unfold updB;split
     ·rename_i e;rw [e,F.out]
     ·rfl
    go_wp2;refine wp_region_any z40_ ?_;change wpAny _ _ _ _ _ _ _ (World.drew _);refine wpAny_t 0 ?_;refine wpAny_t 1 ?_;refine wpAny_ready (rs:=[2]) z40_ k40_ ?_;refine AllReady.cons rfl (fun K d=>?_) AllReady.nil;go_simp;refine (xg.out _ _ F.out (E.out.below (Nat.le_trans y D.out.size) (Y2_ (Below.refl _ _) 1))).mono ?_;rintro e w' ⟨rfl,rfl⟩;refine d _ _ ?_;clear d K;refine wpAny_t 3 ?_;refine wpAny_t 4 ?_;refine wpAny_u 5 ?_;refine wpAny_u 6 ?_;refine wpAny_u 7 ?_;refine wpAny_u 8 ?_;refine wpAny_u 9 ?_;refine wpAny_u 10 ?_;refine wpAny_u 11 ?_;refine wpAny_u 12 ?_;refine wpAny_u 13 ?_;refine wpAny_u 14 ?_;refine wpAny_u 15 ?_;refine wpAny_u 16 ?_;refine wpAny_u 17 ?_;refine wpAny_u 18 ?_;refine wpAny_u 19 ?_;refine wpAny_u 20 ?_;refine wpAny_t 21 ?_;refine wpAny_done z40_ ?_ _;go_wp2
    go_roundw
    case rel=>exact ⟨k+1,al',j41_,y40_,by rw [← y1.out];exact xa.out,N.out.skip x3.out F.out,M.out⟩
    exact mz_
  ·have ye:k=l.length:=by omega
   subst ye;clear xi S;go_wp2;go_ret;exact ⟨false,hs,os,al',rfl,E.out,D.out,fun h=>(by cases h),fun _=>⟨rfl,rfl,N.out.done (by rw [Hl.out];exact le_refl _)⟩⟩
def Jx6 (w:World) (v:Value) (R:Nat) (adj:List (List Int)) (e:Ending) (w':World):Prop :=
 ∃ (gh go:Nat) (hs os:Nat→Int),e=.returned (.agg #[v,.slice (some ⟨gh,0,none⟩) adj.length adj.length,.slice (some ⟨go,0,none⟩) R R]) ∧
  NumsK w' gh adj.length hs∧NumsK w' go R os∧gh≠go∧w.heap.size≤gh∧w.heap.size≤go∧Below w.heap.size w w'∧Great R adj hs os adj.length
structure GInv (w0:World) (B gh go bp R:Nat) (v:Value) (adj:List (List Int)) (wr:World) (k:Nat) (hs os:Nat→Int):Prop where
 rows:Rows2 wr B v adj
 h:NumsK wr gh adj.length hs
 o:NumsK wr go R os
 res:Blk wr B 111 #[.slice none 0 0,.slice none 0 0,.slice none 0 0]
 box:Blk wr bp 111 #[v,.slice (some ⟨gh,0,none⟩) adj.length adj.length,.slice (some ⟨go,0,none⟩) R R]
 below:Below B w0 wr
 great:Great R adj hs os k
theorem GInv.gs {w0 wr d:World} {B gh go bp R k c g:Nat} {v f:Value} {adj:List (List Int)} {hs os:Nat→Int} {al:Nat→Bool} (h:GInv w0 B gh go bp R v adj wr k hs os) (hb:Below wr.heap.size wr d) (m:ReachF d f c g R al) (p:wr.heap.size≤c) (q:wr.heap.size≤g)
  (j:B≤wr.heap.size) (e:B≤gh) (h2:B≤go) (h3:gh≠go):GS d v adj B gh go g c R f hs os al:=by
 have a:=World.rowIs.lt h.h;have b:=World.rowIs.lt h.o;exact ⟨h.rows.below (hb.mono j),h.h.below hb,h.o.below hb,m,e,h2,y40_,y40_,h3,y40_,y40_,y40_,y40_⟩
theorem GInv.next {w0 wr j m:World} {B gh go bp R k p g:Nat} {v f:Value} {adj:List (List Int)} {hs os:Nat→Int} {e:Ending} (h:GInv w0 B gh go bp R v adj wr k hs os) (hb:Below wr.heap.size wr j) (C:wr.heap.size≤g)
  (A:B<gh) (h2:B<go) (h3:bp≠gh) (z:bp≠go) (s:k<adj.length) (q:Gave j v adj B gh go g p R k f hs os (fun _=>false) e m):∃ b hs' os',e=.returned (.bool b)∧GInv w0 B gh go bp R v adj m (k+1) hs' os':=by
 obtain ⟨b,hs',os',al',rfl,c,d,r,w⟩:=q;have x:=Blk.lt h.res;have y:=Blk.lt h.box;have D:=hb.size;refine ⟨b,hs',os',rfl,c.rows,c.h,c.o,?_,?_,?_,?_⟩
 ·exact (d.block B y40_ y40_ y40_ y40_).trans (Blk.below h.res hb x)
 ·exact (d.block bp y40_ y40_ y40_ y40_).trans (Blk.below h.box hb y)
 ·exact (h.below.trans (hb.mono y40_)).trans (d.below y40_ y40_ y40_ y40_)
 ·rcases b with _ | _
  ·obtain ⟨rfl,rfl,u⟩:=w rfl
   exact h.great.miss (fun _=>rfl) u
  ·exact h.great.hit s (r rfl)
theorem Xk1 (n g:Nat) (w:World) (d:n≤64) (c:w.heap.size=g) :
  Calls Tryz.prog 130 #[.int .i64 n] w fun e w'=>e=.returned (.slice (some ⟨g,0,none⟩) n n)∧NumsK w' g n (fun _=>-1)∧Below g w w':=by
 subst c;exact Vj2 n w d
theorem Yj7 (R:Nat) (v:Value) (adj:List (List Int)) (w:World) (hr:Rows2 w w.heap.size v adj) (x5:OnR R adj) (J:R≤64) (hn:adj.length≤64) :
  Calls Tryz.prog 104 #[.int .i64 R,v] w (Jx6 w v R adj):=by
 have Hr:=hid hr;have x9:=hid x5;obtain ⟨A,c,rfl,xg,_⟩:=hr;clear x5;have x6:=Blk.new w 111 #[.slice none 0 0,.slice none 0 0,.slice none 0 0];have x0:=hid x6;have U:=hid ((Below.refl w.heap.size w).alloc (le_refl _) (.cells #[.slice none 0 0,.slice none 0 0,.slice none 0 0] 111));clear x6
 go_enter Tryz.func104,Tryz.ntmps104
 go_wp2_with fail
 refine (Xk1 adj.length (w.heap.size+1) _ hn k40_).mono ?_;rintro e S ⟨rfl,H,G⟩;have x1:=hid (Blk.below x0.out G y40_);have V:Hid (Below w.heap.size w S):=U.out.trans (G.mono y40_);have xd:w.heap.size+1<S.heap.size:=World.rowIs.lt H;have X:=hid H;clear H G x0 U
 go_wp2_with fail
 obtain ⟨go,s⟩:∃ go,S.heap.size=go:=⟨_,rfl⟩;refine (Xk1 R go _ J s).mono ?_;rintro e r ⟨rfl,I,x⟩;have xf:=hid s;have x2:=hid (Blk.below x1.out x y40_);have Z:=hid (X.out.below (s▸x));have W:Hid (Below w.heap.size w r):=V.out.trans (x.mono y40_);have xi:go<r.heap.size:=World.rowIs.lt I;have Y:=hid I;clear I x x1 V X;rw [s] at xd;clear s;obtain ⟨bp,xb⟩:∃ bp,r.heap.size=bp:=⟨_,rfl⟩;go_wp2;obtain ⟨u,B⟩:∃ u,u=r.alloc (.cells #[.slice A adj.length c,.slice (some ⟨w.heap.size+1,0,none⟩) adj.length adj.length,.slice (some ⟨go,0,none⟩) R R] 111):=⟨_,rfl⟩;rw [← B];have x3:Hid (GInv w w.heap.size (w.heap.size+1) go bp R (.slice A adj.length c) adj u 0 (fun _=>-1) (fun _=>-1)):=by
  have z:Below r.heap.size r u:=by rw [B];exact (Below.refl _ r).alloc (le_refl _) _
  have x4:Below w.heap.size w u:=W.out.trans (z.mono y40_);refine ⟨Hr.out.below x4,Z.out.below (z.mono y40_),Y.out.below z,Blk.below x2.out z y40_,?_,x4,Xx0 (fun _=>rfl) (fun _=>rfl)⟩;subst xb;rw [B];exact Blk.new r _ _
 clear B W Z Y x2
 go_loopw [16] (fun Q wr=>∃ (k:Nat) (hs os:Nat→Int),Q=.int .i64 k∧k≤adj.length∧GInv w w.heap.size (w.heap.size+1) go bp R (.slice A adj.length c) adj wr k hs os) (fun Q _=>adj.length - (intOf Q).toNat)
 case atStart=>exact ⟨0,_,_,rfl,Nat.zero_le _,x3.out⟩
 case round =>
  clear x3;obtain ⟨k,hs,os,rfl,hk,q⟩:=hrel;have d:=hid q;have D:=Blk.cell q.box 0;have E:=Blk.cell q.box 1;have F:=Blk.cell q.box 2;have L:bp<wr.heap.size:=Blk.lt q.box;have xh:=World.rowIs.lt q.h;have xj:=World.rowIs.lt q.o;clear q;by_cases P:k<adj.length
  ·have xk:(k:Int)<(adj.length:Int):=by omega
   go_wp2;refine wp_region_any z40_ ?_;change wpAny _ _ _ _ _ _ _ (World.drew _);refine wpAny_t 1 ?_;refine wpAny_t 2 ?_;refine wpAny_ready (rs:=[0,3]) z40_ k40_ ?_;refine AllReady.cons rfl (fun K j=>?_) (AllReady.cons rfl (fun K j=>?_) AllReady.nil);go_simp;refine j _ _ ?_;clear j K;refine wpAny_ready (rs:=[3]) z40_ k40_ ?_;refine AllReady.cons rfl (fun K j=>?_) AllReady.nil;go_simp;refine (Zj8 R _ J).mono ?_;rintro e T ⟨f,bx,g,rfl,N,M,y,m⟩;refine j _ _ ?_;clear j K;rotate_left;go_simp;refine (Zj8 R _ J).mono ?_;rintro e T ⟨f,bx,g,rfl,N,M,y,m⟩;refine j _ _ ?_;clear j K;have D:=(m.cell (p:=⟨bp,0,none⟩) (by simpa using L)).trans D;have E:=(m.cell (p:=⟨bp,1,none⟩) (by simpa using L)).trans E;have F:=(m.cell (p:=⟨bp,2,none⟩) (by simpa using L)).trans F;refine wpAny_ready (rs:=[0]) z40_ k40_ ?_;refine AllReady.cons rfl (fun K j=>?_) AllReady.nil;go_simp;refine j _ _ ?_;clear j K;clear D E F
   all_goals
    refine wpAny_ready (rs:=[4]) z40_ k40_ ?_;refine AllReady.cons rfl (fun K j=>?_) AllReady.nil;go_simp;have C:Hid (Below wr.heap.size wr T):=hid ⟨m.os,m.tape,m.output,m.size,m.block⟩;refine (Vj3 w.heap.size (w.heap.size+1) go g bx R adj _ f x9.out (R+1) T k hs os (fun _=>false) (d.out.gs C.out N M y y40_ y40_ y40_ y40_) (by have:=C.out.size;omega) P d.out.great.p (.inl (d.out.great.rest k (le_refl _) P)) (Nat.lt_succ_of_le (Yg4 _ R))).mono ?_;rintro e w5 hG;obtain ⟨b,hs',os',rfl,x8⟩:=d.out.next C.out y y40_ y40_ y40_ y40_ P hG;have xa:=hid x8;clear x8 hG m N M y;refine j _ _ ?_;clear j K;refine wpAny_done z40_ ?_ _;go_wp2
    go_roundw
    case rel=>exact ⟨k+1,hs',os',j41_,y40_,xa.out⟩
    exact mz_
  ·have xe:k=adj.length:=by omega
   subst xe;have h1:=Blk.cell d.out.res 0;have h2:=Blk.cell d.out.res 1;have h3:=Blk.cell d.out.res 2;have f1:=Blk.frozen d.out.res 0;have f2:=Blk.frozen d.out.res 1;have f3:=Blk.frozen d.out.res 2;go_wp2;have O:=((d.out.res.set_ 0 (.slice A adj.length c)).set_ 1 (.slice (some ⟨w.heap.size+1,0,none⟩) adj.length adj.length)).set_ 2 (.slice (some ⟨go,0,none⟩) R R);have xc:Below w.heap.size w (((wr.setCell ⟨w.heap.size,0,none⟩ (.slice A adj.length c)).setCell ⟨w.heap.size,1,none⟩ (.slice (some ⟨w.heap.size+1,0,none⟩) adj.length adj.length)).setCell ⟨w.heap.size,2,none⟩ (.slice (some ⟨go,0,none⟩) R R)) :=
    ((d.out.below.setCell (p:=⟨w.heap.size,0,none⟩) (le_refl _) _).setCell (p:=⟨w.heap.size,1,none⟩) (le_refl _) _).setCell (p:=⟨w.heap.size,2,none⟩) (le_refl _) _
   have x7:∀ b,b≠w.heap.size→(((wr.setCell ⟨w.heap.size,0,none⟩ (.slice A adj.length c)).setCell ⟨w.heap.size,1,none⟩ (.slice (some ⟨w.heap.size+1,0,none⟩) adj.length adj.length)).setCell ⟨w.heap.size,2,none⟩ (.slice (some ⟨go,0,none⟩) R R)).heap[b]?=wr.heap[b]?:=fun b hb =>
    ((Below.heap_setCell _ ⟨w.heap.size,2,none⟩ _ b hb).trans (Below.heap_setCell _ ⟨w.heap.size,1,none⟩ _ b hb)).trans (Below.heap_setCell _ ⟨w.heap.size,0,none⟩ _ b hb)
   generalize ((wr.setCell ⟨w.heap.size,0,none⟩ (.slice A adj.length c)).setCell ⟨w.heap.size,1,none⟩ (.slice (some ⟨w.heap.size+1,0,none⟩) adj.length adj.length)).setCell ⟨w.heap.size,2,none⟩ (.slice (some ⟨go,0,none⟩) R R)=w9 at *
   have k1:w9.cell? ⟨w.heap.size,0,none⟩=some (.slice A adj.length c):=O.cell 0;have k2:w9.cell? ⟨w.heap.size,1,none⟩=some (.slice (some ⟨w.heap.size+1,0,none⟩) adj.length adj.length):=O.cell 1;have k3:w9.cell? ⟨w.heap.size,2,none⟩=some (.slice (some ⟨go,0,none⟩) R R):=O.cell 2;refine bodyPost_ret (v:=.agg #[.slice A adj.length c,.slice (some ⟨w.heap.size+1,0,none⟩) adj.length adj.length,.slice (some ⟨go,0,none⟩) R R]) ?_ rfl ?_
   ·simp [results,Tryz.results104,go_sem,k1,k2,k3]
   ·exact ⟨w.heap.size+1,go,hs,os,rfl,World.rowIs.of_block d.out.h (x7 _ y40_),World.rowIs.of_block d.out.o (x7 _ y40_),y40_,y40_,y40_,xc,d.out.great⟩
theorem onR_of_may {right:Int} {adj:List (List Int)} (h:mayM right adj=true):OnR right.toNat adj:=by
 unfold mayM at h;rw [Bool.and_eq_true,Bool.and_eq_true,List.all_eq_true] at h;intro i x d;have f:i<adj.length:=by
  rcases Nat.lt_or_ge i adj.length with hl | hl
  ·exact hl
  ·rw [List.getD_eq_getElem?_getD,List.getElem?_eq_none hl] at d
   exact absurd d k40_
 have c:=h.2 _ (List.getElem_mem f);rw [show adj.getD i []=adj[i] by simp [List.getD,f]] at d;unfold okL at c;rw [Bool.and_eq_true,mayB_iff] at c;obtain ⟨⟨k,o⟩,c⟩:=c;obtain ⟨m,g,rfl⟩:=List.mem_iff_getElem.1 d;have p:=(o _ (List.getElem_mem g)).1;have hl:adj[i][m]≤adj[i].getD (adj[i].length - 1) 0:=by
  have e:adj[i].getD (adj[i].length - 1) 0=adj[i][adj[i].length - 1]'y40_:=by simp [List.getD,show adj[i].length - 1<adj[i].length by omega]
  rw [e];rcases Nat.lt_or_ge m (adj[i].length - 1) with j | q
  ·exact Int.le_of_lt (List.pairwise_iff_getElem.1 k m (adj[i].length - 1) g y40_ j)
  ·have:m=adj[i].length - 1:=by omega
   subst this;exact Int.le_refl _
 rw [decide_eq_false y40_,Bool.false_or,decide_eq_true_iff] at c;exact ⟨adj[i][m].toNat,y40_,y40_⟩
theorem Xv5 {right:Int} {adj:List (List Int)} (h:mayM right adj=true):0≤right∧right≤64∧adj.length≤64:=by
 unfold mayM at h;rw [Bool.and_eq_true,Bool.and_eq_true,decide_eq_true_iff,decide_eq_true_iff] at h;exact ⟨h.1.1.1,h.1.1.2,h.1.2⟩
theorem Xk2 (right:Int) (v:Value) (adj:List (List Int)) (b:Bool) (h:mayM right adj=b) (w:World) (c:Rows2 w w.heap.size v adj) :
  Calls Tryz.prog 103 #[.int .i64 right,v] w (Says w b):=by
 subst h;exact kmay_any right v adj w c
def MaxP (w:World) (right:Int) (adj:List (List Int)) (e:Ending) (w':World):Prop :=
 ∃ (v:Value) (l:List Int) (n:Nat),e=.returned (.tuple #[v,.int .i64 n])∧Row w' w'.heap.size v l∧Below w.heap.size w w' ∧
  ((mayM right adj=false∧l=[]∧n=0)∨(mayM right adj=true∧∃ hs os,Great right.toNat adj hs os adj.length∧l=(List.range adj.length).map hs∧n=msize adj hs))
theorem Vj4 {w:World} {g n:Nat} {f:Nat→Int} (h:NumsK w g n f) (j:n≤maxLen):Row w w.heap.size (.slice (some ⟨g,0,none⟩) n n) ((List.range n).map f):=by
 refine ⟨some ⟨g,0,none⟩,n,k40_,⟨k40_,j,fun h=>(by cases h)⟩,fun k d=>⟨_,rfl,World.rowIs.lt h,?_⟩⟩;have c:k<n:=by simpa using d
 have e:((List.range n).map f).getD k 0=f k:=by simp [List.getD,c]
 rw [e,← World.rowIs.cell h c];congr 1;simp [Addr.add]
 try omega
theorem Jx7 (a b c:Value) (w:World):Sem.run Tryz.prog (Instr.field 111 (.agg #[a,b,c]) 1) w=.ok b w:=by
 kernel_rfl
theorem max_any (right:Int) (v:Value) (adj:List (List Int)) (w:World) (G:Rows2 w w.heap.size v adj) :
  Calls Tryz.prog 76 #[.int .i64 right,v] w (MaxP w right adj):=by
 have m:=hid G;obtain ⟨A,c,rfl,V,_⟩:=G;rcases hm:mayM right adj with _ | _
 ·have h:=hid hm
  clear hm
  go_enter Tryz.func76,Tryz.ntmps76
  go_wp2_with fail
  refine (Xk2 right _ adj false h.out w m.out).mono ?_;rintro e H ⟨rfl,d⟩;have g:=hid d;clear d;go_wp2
  go_ret2
  exact ⟨_,[],0,rfl,Row.nil_ _ _,g.out,.inl ⟨h.out,rfl,rfl⟩⟩
 ·have h:=hid hm
  obtain ⟨S,T,Q⟩:=Xv5 hm;have J:=hid (onR_of_may hm);clear hm;obtain ⟨R,rfl⟩:∃ R:Nat,right=(R:Int):=⟨right.toNat,y40_⟩;have N:R≤64:=y40_;have y:Hid ((R:Int).toNat=R):=hid y40_;clear S T
  go_enter Tryz.func76,Tryz.ntmps76
  go_wp2_with fail
  refine (Xk2 R _ adj true h.out w m.out).mono ?_;rintro e H ⟨rfl,d⟩;have g:=hid d;have B:=hid (m.out.up d);clear d
  go_wp2_with fail
  refine (Yj7 R _ adj H B.out (by rw [← y.out];exact J.out) N Q).mono ?_;rintro e I ⟨gh,go,hs,os,rfl,F,_,_,_,_,D,E⟩;have u:=hid (g.out.trans (D.mono g.out.size));have L:=hid F;have K:=hid E;clear D F E g B;have X:=fun W=>Jx7 (.slice A adj.length c) (.slice (some ⟨gh,0,none⟩) adj.length adj.length) (.slice (some ⟨go,0,none⟩) R R) W;go_wp2
  go_loopw [7,20] (fun U s wr=>∃ k:Nat,s=.int .i64 k∧U=.int .i64 (cntP k fun i=>decide (hs i≠-1))∧k≤adj.length∧Below I.heap.size I wr) (fun _ s _=>adj.length - (intOf s).toNat)
  case atStart=>exact ⟨0,rfl,rfl,Nat.zero_le _,Below.refl _ _⟩
  case round =>
   obtain ⟨k,rfl,rfl,Y,p⟩:=hrel;have j:=hid p;have z:=hid (L.out.below p);clear p;by_cases P:k<adj.length
   ·have Z:(k:Int)<(adj.length:Int):=by omega
    have M:=NumsK.at z.out P;have hc:=Yg4 (fun i=>decide (hs i≠-1)) k;have C:=hid (C1_ k fun i=>decide (hs i≠-1));generalize cntP k (fun i=>decide (hs i≠-1))=q at *
    by_cases r:hs k=-1
    ·have o:Hid (cntP (k+1) (fun i=>decide (hs i≠-1))=q):=hid (by rw [C.out,decide_eq_false (by simpa using r)];simp)
     rw [r] at M;go_wp2
     go_roundw
     case rel=>exact ⟨k+1,j41_,by rw [o.out],y40_,j.out⟩
     exact mz_
    ·have o:Hid (cntP (k+1) (fun i=>decide (hs i≠-1))=q+1):=hid (by rw [C.out,decide_eq_true (by simpa using r)];simp)
     generalize hs k=x at *
     go_wp2
     go_roundw
     case rel=>exact ⟨k+1,j41_,by rw [o.out];go_num,y40_,j.out⟩
     exact mz_
   ·have O:k=adj.length:=by omega
    subst O;go_wp2
    go_ret2
    exact ⟨_,_,_,rfl,Vj4 z.out z41_,u.out.trans (j.out.mono u.out.size),.inr ⟨h.out,hs,os,by rw [y.out];exact K.out,rfl,rfl⟩⟩
end Go.Proofs.YtigobiacbficaaaGreatDoor.Wp.K
