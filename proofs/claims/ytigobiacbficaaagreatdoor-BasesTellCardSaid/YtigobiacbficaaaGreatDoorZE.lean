/- The library's IndexFunc and ContainsFunc over a list of integers, and over a list of lists, walked over whatever test. The program's numbers: whether a list has so many, all in bounds; and no edge. The program's elim.May, walked: whether columns may be. -/
import Derived.Test.YtigobiacbficaaaGreatDoorZA
import Derived.Deep.QuietTactic
import Derived.Test.YtigobiacbficaaaGreatDoorZU
import Derived.Test.YtigobiacbficaaaGreatDoorZM
import Derived.Laws.EntriesVeiled
import Derived.Test.YtigobiacbficaaaGreatDoorX0A
import Derived.Test.YtigobiacbficaaaGreatDoorX0B
set_option maxHeartbeats 4000000
set_option maxRecDepth 100000
open Go.Lib (hid)
namespace Go.Proofs.YtigobiacbficaaaGreatDoor.Wp
private theorem j30_ {P:Prop} (h:P:=by
 go_enter Tryz.func105,Tryz.ntmps105
 go_wp2_with fail
 refine (prime_is p true HP.out _ (HM.out.up Hb0.out)).mono ?_
 rintro e w1 ⟨rfl,hb1⟩
 have c0:w1.cell? ⟨w.heap.size,0,none⟩=some (.int .i64 p):=(hb1.cell (p:=⟨w.heap.size,0,none⟩) (by simp;omega)).trans (by simp [go_sem])
 have c1:w1.cell? ⟨w.heap.size+1,0,none⟩=some (.int .i64 rows):=(hb1.cell (p:=⟨w.heap.size+1,0,none⟩) (by simp)).trans (by simp [go_sem])
 have Hb1:=hid (Z0_ Hb0.out (Nat.le_refl _) hb1)
 have Hs1:Hid (w.heap.size+1<w1.heap.size):=k7_
 clear hb1
 exact k1_):P:=h
private theorem y39_ {P:Prop} (h:P:=by
 rw [decide_eq_false (show ¬ (0≤rows∧rows≤64) by omega)]
 simp only [Bool.false_and]
 exact j30_):P:=h
open Go.RowKit
def Found {α:Type} (P:α→Bool) (d:α) (zs:List α) (r:Int):Prop :=
 (r=-1∧∀ j,j<zs.length→P (zs.getD j d)=false)∨∃ i:Nat,i<zs.length∧r=(i:Int)∧P (zs.getD i d)=true∧∀ j,j<i→P (zs.getD j d)=false
theorem Zd3 {α:Type} {P:α→Bool} {d:α} {zs:List α} {r:Int} (h:Found P d zs r):(decide (0≤r))=zs.any P:=by
 rcases h with ⟨rfl,h⟩ | ⟨i,c,rfl,h,_⟩
 ·have:zs.any P=false:=by
   rw [← Bool.not_eq_true,List.any_eq_true];rintro ⟨x,g,f⟩;obtain ⟨j,e,rfl⟩:=List.mem_iff_getElem.1 g;have:=h j e;rw [List.getD_eq_getElem?_getD,List.getElem?_eq_getElem e] at this;simp [f] at this
  rw [this];rfl
 ·have:zs.any P=true:=List.any_eq_true.2 ⟨zs[i],List.getElem_mem c,by
   rw [List.getD_eq_getElem?_getD,List.getElem?_eq_getElem c] at h;exact h⟩
  rw [this];exact decide_eq_true y40_
def Tests (w:World) (g:Nat) (lb:Array Value) (P:Int→Bool):Prop :=
 ∀ (x:Int) (W:World),Below w.heap.size w W→Calls Tryz.prog g (#[.int .i64 x] ++ lb) W fun e W'=>e=.returned (.bool (P x))∧Below W.heap.size W W'
def Yv2 (w:World) (g:Nat) (lb:Array Value) (P:List Int→Bool):Prop :=
 ∀ (u:Value) (zs:List Int) (W:World),Below w.heap.size w W→Row W W.heap.size u zs→Calls Tryz.prog g (#[u] ++ lb) W fun e W'=>e=.returned (.bool (P zs))∧Below W.heap.size W W'
theorem Yv3 (g:Nat) (q:Array Value) (P:Int→Bool) (v:Value) (zs:List Int) (w:World) (B:∀ args w,(callFunc g args).run Tryz.prog w=.ok (.enter g args) w) (z:Row w w.heap.size v zs) (hl:zs.length≤1048576) (m:Tests w g q P) :
  Calls Tryz.prog 162 #[v,.func (.func g) #[] q] w fun e w'=>∃ r,e=.returned (.int .i64 r)∧Found P 0 zs r∧Below w.heap.size w w':=by
 obtain ⟨A,c,rfl,_,d⟩:=z;have Hk:=hid d;have Ht:=hid m;have C:(zs.length:Int)≤1048576:=y40_;clear d m
 go_enter Tryz.func162,Tryz.ntmps162
 go_wp2
 go_loopw [8] (fun h wr=>∃ k:Nat,h=.int .i64 k∧k≤zs.length∧Below w.heap.size w wr∧∀ j,j<k→P (zs.getD j 0)=false) (fun h _=>zs.length - (intOf h).toNat)
 case atStart=>exact ⟨0,rfl,Nat.zero_le _,Below.refl _ _,fun j hj=>absurd hj (Nat.not_lt_zero _)⟩
 case round =>
  obtain ⟨k,rfl,d,hb,o⟩:=hrel;have Hb:=hid hb;have Hz:=hid o;clear hb o;by_cases hlt:k<zs.length
  ·obtain ⟨s,y,hab,hc⟩:=Hk.out k hlt
   subst y;have u:=(Hb.out.cell (p:=s.add k) x42_).trans hc;have Hcall:=hid (Ht.out (zs.getD k 0) _ Hb.out);have D:(k:Int)<(zs.length:Int):=y40_;obtain ⟨x,hx⟩:∃ x,x=zs.getD k 0:=⟨_,rfl⟩;rw [← hx] at u Hcall;have Hx:=hid hx;exact y3_
  ·have hke:k=zs.length:=by omega
   exact z17_
theorem Xx8 (g:Nat) (s:Array Value) (P:List Int→Bool) (v:Value) (pp:List (List Int)) (w:World) (D:∀ args w,(callFunc g args).run Tryz.prog w=.ok (.enter g args) w) (C:Rows2 w w.heap.size v pp) (hl:pp.length≤1048576) (o:Yv2 w g s P) :
  Calls Tryz.prog 161 #[v,.func (.func g) #[] s] w fun e w'=>∃ r,e=.returned (.int .i64 r)∧Found P [] pp r∧Below w.heap.size w w':=by
 obtain ⟨A,c,rfl,_,d⟩:=C;have Hk:=hid d;have Ht:=hid o;have F:(pp.length:Int)≤1048576:=y40_;clear d o
 go_enter Tryz.func161,Tryz.ntmps161
 go_wp2
 go_loopw [8] (fun m wr=>∃ k:Nat,m=.int .i64 k∧k≤pp.length∧Below w.heap.size w wr∧∀ j,j<k→P (pp.getD j [])=false) (fun m _=>pp.length - (intOf m).toNat)
 case atStart=>exact ⟨0,rfl,Nat.zero_le _,Below.refl _ _,fun j hj=>absurd hj (Nat.not_lt_zero _)⟩
 case round =>
  obtain ⟨k,rfl,d,hb,q⟩:=hrel;have Hb:=hid hb;have Hz:=hid q;clear hb q;by_cases hlt:k<pp.length
  ·obtain ⟨y,u,z,hab,hc,h⟩:=Hk.out k hlt
   subst z;have E:=(Hb.out.cell (p:=y.add k) x42_).trans hc;have Hcall:=hid (Ht.out u (pp.getD k []) _ Hb.out ((h.below Hb.out).mono Hb.out.size));have G:(k:Int)<(pp.length:Int):=y40_;obtain ⟨x,hx⟩:∃ x,x=pp.getD k []:=⟨_,rfl⟩;rw [← hx] at Hcall h;have Hx:=hid hx;obtain ⟨B,c1,rfl,_⟩:=h;exact y3_
  ·have hke:k=pp.length:=by omega
   exact z17_
theorem O2_ (g:Nat) (d:Array Value) (P:Int→Bool) (v:Value) (zs:List Int) (w:World) (h:∀ args w,(callFunc g args).run Tryz.prog w=.ok (.enter g args) w) (k:Row w w.heap.size v zs) (hl:zs.length≤1048576) (m:Tests w g d P) :
  Calls Tryz.prog 137 #[v,.func (.func g) #[] d] w (Says w (zs.any P)):=by
 have o:=hid (Yv3 g d P v zs w h k hl m);obtain ⟨A,c,rfl,_⟩:=k;clear m h
 go_enter Tryz.func137,Tryz.ntmps137
 go_wp2_with fail
 refine (o.out).mono ?_;rintro e p ⟨r,rfl,j,hb⟩;have Hf:=hid (Zd3 j);clear j;by_cases h0:0≤r
 ·exact x27_
 ·exact z22_
theorem L8_ (g:Nat) (d:Array Value) (P:List Int→Bool) (v:Value) (pp:List (List Int)) (w:World) (h:∀ args w,(callFunc g args).run Tryz.prog w=.ok (.enter g args) w) (k:Rows2 w w.heap.size v pp) (hl:pp.length≤1048576) (m:Yv2 w g d P) :
  Calls Tryz.prog 135 #[v,.func (.func g) #[] d] w (Says w (pp.any P)):=by
 have o:=hid (Xx8 g d P v pp w h k hl m);obtain ⟨A,c,rfl,_⟩:=k;clear m h
 go_enter Tryz.func135,Tryz.ntmps135
 go_wp2_with fail
 refine (o.out).mono ?_;rintro e p ⟨r,rfl,j,hb⟩;have Hf:=hid (Zd3 j);clear j;by_cases h0:0≤r
 ·exact x27_
 ·exact z22_
open Go.RowKit
theorem Vo3 (below x:Int) (B:Nat) (W:World) (hc:W.cell? ⟨B,0,none⟩=some (.int .i64 below)) :
  Calls Tryz.prog 189 #[.int .i64 x,.pointer (some ⟨B,0,none⟩)] W fun e d=>e=.returned (.bool (outB below x))∧Below W.heap.size W d:=by
 unfold outB;by_cases c:x<0
 ·rw [decide_eq_true (Or.inl c)]
  go_enter Tryz.func189,Tryz.ntmps189
  exact y4_
 ·have g:0≤x:=by omega
  rw [show decide (x<0∨below≤x)=decide (below≤x) from decide_eq_decide.2 ⟨fun h=>h.resolve_left c,.inr⟩];clear c
  go_enter Tryz.func189,Tryz.ntmps189
  go_wp2;go_ret;refine ⟨?_,Below.refl _ _⟩;show Ending.returned (.bool (decide (x<0) || decide (below≤x)))=_;rw [decide_eq_false (show ¬ x<0 by omega),Bool.false_or]
theorem Vo4 (below:Int) (B:Nat) (w:World) (c:B<w.heap.size) (hc:w.cell? ⟨B,0,none⟩=some (.int .i64 below)):Tests w 189 #[.pointer (some ⟨B,0,none⟩)] (outB below) :=
 fun x W d=>Vo3 below x B W ((d.cell (p:=⟨B,0,none⟩) c).trans hc)
theorem D1_ (d below:Int) (v:Value) (zs:List Int) (w:World) (g:Row w w.heap.size v zs) (o:d≤1048576) :
  Calls Tryz.prog 173 #[v,.int .i64 d,.int .i64 below] w (Says w (numsB zs d below)):=by
 unfold numsB;have Hb0:=hid (show Below w.heap.size w (w.alloc (.cells #[.int .i64 below] 3)) from (Below.refl _ _).alloc (Nat.le_refl _) _);by_cases hl:(zs.length:Int)=d
 ·have h:=(g.below Hb0.out).mono Hb0.out.size
  have j:=hid (O2_ 189 #[.pointer (some ⟨w.heap.size,0,none⟩)] (outB below) v zs (w.alloc (.cells #[.int .i64 below] 3)) (enters_of Tryz.func189 z40_ rfl) h y40_ (Vo4 below w.heap.size _ k40_ (by simp [go_sem])));obtain ⟨A,c,rfl,_⟩:=g;rw [decide_eq_true hl,Bool.true_and];generalize zs.any (outB below)=b at *
  have m:((zs.length:Int)==d)=true:=by simp [hl]
  clear hl h
  go_enter Tryz.func173,Tryz.ntmps173
  go_wp2_with fail
  refine (j.out).mono ?_;rintro e p ⟨rfl,k⟩;go_wp2;go_ret;refine ⟨?_,Hb0.out.trans (k.mono Hb0.out.size)⟩;rfl
 ·rw [decide_eq_false hl,Bool.false_and]
  obtain ⟨A,c,rfl,_⟩:=g;have m:((zs.length:Int)==d)=false:=by simpa using hl
  clear hl
  go_enter Tryz.func173,Tryz.ntmps173
  exact q3_
theorem Vx2 (A:Int) (B:Nat) (v:Value) (zs:List Int) (W:World) (hc:W.cell? ⟨B,2,none⟩=some (.int .i64 A)) (d:Row W W.heap.size v zs) :
  Calls Tryz.prog 172 #[v,.pointer (some ⟨B,0,none⟩)] W (Says W (edgeB A zs)):=by
 have g:=hid (D1_ 2 A v zs W d q41_);unfold edgeB;obtain ⟨j,c,rfl,_⟩:=d;generalize numsB zs 2 A=b at *
 go_enter Tryz.func172,Tryz.ntmps172
 go_wp2_with fail
 refine (g.out).mono ?_;rintro e k ⟨rfl,h⟩;go_wp2;go_ret;exact ⟨rfl,h⟩
open Go.RowKit
theorem wrong_any (p x:Int) (B:Nat) (W:World) (hc:W.cell? ⟨B,0,none⟩=some (.int .i64 p)) :
  Calls Tryz.prog 134 #[.int .i64 x,.pointer (some ⟨B,0,none⟩)] W fun e c=>e=.returned (.bool (wrongB p x))∧Below W.heap.size W c:=by
 unfold wrongB;by_cases h1:x<0
 ·exact j35_
 ·exact k5_
theorem wrongtest (p:Int) (B:Nat) (w:World) (c:B<w.heap.size) (hc:w.cell? ⟨B,0,none⟩=some (.int .i64 p)):Tests w 134 #[.pointer (some ⟨B,0,none⟩)] (wrongB p) :=
 fun x W d=>wrong_any p x B W ((d.cell (p:=⟨B,0,none⟩) c).trans hc)
theorem badrow_any (p rows:Int) (bp d g:Nat) (v:Value) (zs:List Int) (w:World) (hbp:bp<w.heap.size) (hp:w.cell? ⟨bp,0,none⟩=some (.int .i64 p)) (j:w.cell? ⟨d,0,none⟩=some (.int .i64 rows))
  (k:w.cell? ⟨g,0,none⟩=some (.func (.func 134) #[] #[.pointer (some ⟨bp,0,none⟩)])) (hr:Row w w.heap.size v zs) (h:rows≤64) :
  Calls Tryz.prog 136 #[v,.pointer (some ⟨d,0,none⟩),.pointer (some ⟨g,0,none⟩)] w fun e w'=>e=.returned (.bool (badRow p rows zs))∧Below w.heap.size w w':=by
 unfold badRow;by_cases hl:(zs.length:Int)=rows
 ·exact x4_
 ·exact y33_
theorem badtest (p rows:Int) (bp c d:Nat) (w:World) (g:bp<w.heap.size) (j:c<w.heap.size) (k:d<w.heap.size) (m:w.cell? ⟨bp,0,none⟩=some (.int .i64 p)) (o:w.cell? ⟨c,0,none⟩=some (.int .i64 rows))
  (r:w.cell? ⟨d,0,none⟩=some (.func (.func 134) #[] #[.pointer (some ⟨bp,0,none⟩)])) (h:rows≤64) :
  Yv2 w 136 #[.pointer (some ⟨c,0,none⟩),.pointer (some ⟨d,0,none⟩)] (badRow p rows) :=
 fun u zs W e q=>badrow_any p rows bp c d u zs W (Nat.lt_of_lt_of_le g e.size) ((e.cell (p:=⟨bp,0,none⟩) g).trans m) ((e.cell (p:=⟨c,0,none⟩) j).trans o) ((e.cell (p:=⟨d,0,none⟩) k).trans r) q h
theorem prime_is (p:Int) (b:Bool) (h:prB p=b) (w:World) (hM:Met w):Calls Tryz.prog 133 #[.int .i64 p] w (Gets w (.bool b)):=by
 subst h;exact T8_ p w hM
theorem below_two (w:World) (c d:Obj):Below w.heap.size w ((w.alloc c).alloc d):=((Below.refl _ w).alloc (Nat.le_refl _) _).alloc k40_ _
theorem Vx3 (p rows:Int) (v:Value) (cols:List (List Int)) (w:World) (hM:Met w) (k:Rows2 w w.heap.size v cols) :
  Calls Tryz.prog 105 #[.int .i64 p,.int .i64 rows,v] w (Says w (elimB p rows cols)):=by
 have q:=hid k;have HM:=hid hM;obtain ⟨A,c,rfl,hn,_⟩:=k;have x:(cols.length:Int)≤9223372036854775807:=x45_;have Hb0:=hid (below_two w (.cells #[.int .i64 p] 3) (.cells #[.int .i64 rows] 3));clear hn hM;unfold elimB;rcases hp:prB p with _ | _
 ·simp only [Bool.false_and]
  have HP:=hid hp;clear hp
  go_enter Tryz.func105,Tryz.ntmps105
  go_wp2_with fail
  refine (prime_is p false HP.out _ (HM.out.up Hb0.out)).mono ?_;exact y38_
 ·simp only [Bool.true_and]
  have HP:=hid hp;clear hp;by_cases r:rows<0
  ·exact y39_
  ·have s:0≤rows:=by omega
   clear r;by_cases h2:64<rows
   ·exact y39_
   ·have g:rows≤64:=by omega
    rw [decide_eq_true (show 0≤rows∧rows≤64 from ⟨s,g⟩),Bool.true_and];clear h2;by_cases h3:cols.length≤64
    ·rw [decide_eq_true h3,Bool.true_and]
     have u:(cols.length:Int)≤64:=y40_;generalize j:cols.any (badRow p rows)=cb;have o:=hid j;have m:=hid h3;clear j h3
     go_enter Tryz.func105,Tryz.ntmps105
     go_wp2_with fail
     refine (prime_is p true HP.out _ (HM.out.up Hb0.out)).mono ?_;rintro e w1 ⟨rfl,hb1⟩;have c0:w1.cell? ⟨w.heap.size,0,none⟩=some (.int .i64 p):=(hb1.cell (p:=⟨w.heap.size,0,none⟩) x41_).trans (by simp [go_sem]);have c1:w1.cell? ⟨w.heap.size+1,0,none⟩=some (.int .i64 rows):=(hb1.cell (p:=⟨w.heap.size+1,0,none⟩) k40_).trans (by simp [go_sem]);have Hb1:=hid (Z0_ Hb0.out (Nat.le_refl _) hb1);have Hs1:Hid (w.heap.size+1<w1.heap.size):=k7_;clear hb1;have d:Hid (Below w.heap.size w (w1.alloc (.cells #[.func (.func 134) #[] #[.pointer (some ⟨w.heap.size,0,none⟩)]] 57))):=Hb1.out.alloc Hb1.out.size _
     go_wp2_with fail
     refine (L8_ 136 _ (badRow p rows) _ cols _ (enters_of Tryz.func136 z40_ rfl) (q.out.up d.out) (by have:=m.out;omega) (badtest p rows w.heap.size (w.heap.size+1) w1.heap.size _ j49_ j49_ k40_ ?_ ?_ ?_ g)).mono ?_
     ·exact q22_
     ·exact k29_
     ·exact (Blk.new w1 _ _).cell 0
     rintro e y ⟨rfl,h⟩;rw [o.out];have Hb2:=hid (Z0_ d.out (Nat.le_refl _) h);clear h;exact j2_
    ·rw [decide_eq_false h3,Bool.false_and]
     have u:64<(cols.length:Int):=y40_;clear h3;exact j30_
end Go.Proofs.YtigobiacbficaaaGreatDoor.Wp
