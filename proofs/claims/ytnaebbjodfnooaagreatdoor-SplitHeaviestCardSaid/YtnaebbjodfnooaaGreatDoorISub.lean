/- The program's takeOff, walked. The program's rank of columns, walked. -/
import Derived.Test.YtnaebbjodfnooaaGreatDoorZP
import Derived.Maps.RangeWalk
import Derived.Maps.OwnSet
import Derived.WalkKit
import Derived.Test.YtnaebbjodfnooaaGreatDoorGPlaces
import Derived.Deep.OwnRows
import Derived.Test.YtnaebbjodfnooaaGreatDoorZU
import Derived.Maps.OwnOps
import Derived.StillTailTactics
import Derived.IntWalk
import Derived.Lib.SliceRun
import Derived.Test.YtnaebbjodfnooaaGreatDoorZE
import Derived.Shelf.Abstract
import Derived.Laws.EntriesVeiled
import Derived.Maps.AppendAt
import Derived.Test.YtnaebbjodfnooaaGreatDoorX0A
import Derived.Test.YtnaebbjodfnooaaGreatDoorX0C
set_option maxHeartbeats 8000000
set_option maxRecDepth 100000
open Go.Lib (hid)
open Nat (le_refl)
namespace Go.Proofs.YtnaebbjodfnooaaGreatDoor.Wp
private theorem j28_ {P:Prop} (h:P:=by
 go_enter Tryz.func124,Tryz.ntmps124
 go_wp2_with fail
 refine (prime_is p true HP.out _ (HM.out.up Hb0.out)).mono ?_
 rintro e w1 ⟨rfl,hb1⟩
 have c0:w1.cell? ⟨w.heap.size,0,none⟩=some (.int .i64 p):=(hb1.cell (p:=⟨w.heap.size,0,none⟩) (by simp;omega)).trans (by simp [go_sem])
 have c1:w1.cell? ⟨w.heap.size+1,0,none⟩=some (.int .i64 rows):=(hb1.cell (p:=⟨w.heap.size+1,0,none⟩) (by simp)).trans (by simp [go_sem])
 have Hb1:=hid (Z0_ Hb0.out (le_refl _) hb1)
 have Hs1:Hid (w.heap.size+1<w1.heap.size):=k6_
 clear hb1
 exact j1_):P:=h
private theorem y36_ {P:Prop} (h:P:=by
 rw [decide_eq_false (show ¬ (0≤rows∧rows≤64) by omega)]
 simp only [Bool.false_and]
 exact j28_):P:=h
end Go.Proofs.YtnaebbjodfnooaaGreatDoor.Wp
namespace Go.Proofs.YtnaebbjodfnooaaGreatDoor.Wp.L
open Go
def Reads (D:DataW Unit) (f:Nat→Int):Prop:=∀ (x:Int) (zd:DataW Unit),D.atKey (.int .i64 x) zd=if 0≤x∧f x.toNat≠0 then .lit (.int .i64 (f x.toNat)) else zd
theorem Yi1:Reads (.map []) fun _=>0:=fun x c=>by simp [DataW.atKey]
theorem Xp8 {D:DataW Unit} {f:Nat→Int} (g:Maps.IsMap D) (h:Reads D f) (a:Nat) {t:Int} (m:t≠0) (j:WideAt.IsKeyLit (.int .i64 (a:Int))):Reads (D.put (.int .i64 (a:Int)) (.lit (.int .i64 t))) (upd f a t):=by
 intro x o;by_cases d:x=(a:Int)
 ·subst d
  rw [Maps.atKey_put_same g j];unfold upd;simp [m]
 ·rw [Maps.atKey_put_other (by intro e;injection e with _ e;exact d e),h x o]
  by_cases c:0≤x
  ·have k:x.toNat≠a:=by omega
   unfold upd;rw [if_neg k]
  ·rw [if_neg (fun e=>c e.1),if_neg (fun e=>c e.1)]
open Go.RowKit
variable {p:Int} {R:Nat}
theorem Yq5 {a b:Int} (f:p≤2147483647) (ha:0≤a) (d:a<p) (hb:0≤b) (e:b<p):0≤a * b∧a * b<4611686018427387904:=by
 refine ⟨Int.mul_nonneg ha hb,?_⟩;have c:a * b≤2147483646 * b:=Int.mul_le_mul_of_nonneg_right x37_ hb;omega
theorem Vs3 {x:Int} (c:-9223372036854775808≤x) (d:x<9223372036854775808):wrap64 x=x:=by
 unfold wrap64;omega
theorem Zf8 {a b:Int} (e:p≤2147483647) (ha:0≤a) (c:a<p) (hb:0≤b) (d:b<p):wrap64 (a * b)=a * b:=by
 have:=Yq5 e ha c hb d;exact Vs3 x37_ x37_
theorem Xq4 {left:List Int} {l:Line} {t:Int}:subU p left l t l.lead=left:=by
 apply List.ext_getElem
 ·exact A3_
 ·intro i d c
  have:=N5_ (p:=p) (l:=l) (t:=t) (k:=l.lead) c;rw [if_neg x37_] at this;simpa [List.getD,d,c] using this
theorem Vs4 {left:List Int} {l:Line} {t:Int} {r:Nat} (h:r<left.length):(subU p left l t r).getD r 0=left.getD r 0:=by
 rw [N5_ h,if_neg x37_]
theorem Xp9 {left:List Int} {l:Line} {t:Int} {r:Nat} (h:l.lead≤r):(subU p left l t r).set r ((left.getD r 0 - t * l.left.getD r 0) % p)=subU p left l t (r+1):=by
 apply List.ext_getElem
 ·simp [A3_]
 ·intro i g f
  have hi:i<left.length:=by simpa [A3_] using f
  have d:=N5_ (p:=p) (left:=left) (l:=l) (t:=t) (k:=r+1) hi;have e:=N5_ (p:=p) (left:=left) (l:=l) (t:=t) (k:=r) hi;rw [List.getD_eq_getElem?_getD,List.getElem?_eq_getElem f] at d;rw [List.getD_eq_getElem?_getD,List.getElem?_eq_getElem (by rw [A3_];exact hi)] at e;rw [show (subU p left l t (r+1))[i]=_ from d,List.getElem_set];by_cases h3:r=i
  ·subst h3
   rw [if_pos rfl,if_pos ⟨h,x37_⟩]
  ·rw [if_neg h3,show (subU p left l t r)[i]'(by rw [A3_];exact hi)=_ from e]
   by_cases c:l.lead≤i∧i<r
   ·rw [if_pos c,if_pos ⟨c.1,x37_⟩]
   ·rw [if_neg c,if_neg x37_]
def takeN (p:Int) (ls:List Line) (col:List Int) (k:Nat):List Int × (Nat→Int):=(ls.take k).foldl (stepT p) (col,fun _=>0)
theorem Xq5 {c:List Line} {col:List Int} {k:Nat} (d:k<c.length):takeN p c col (k+1)=stepT p (takeN p c col k) c[k]:=by
 unfold takeN;rw [List.take_succ_eq_append_getElem d,List.foldl_append];rfl
theorem Xr0 {c:List Line} {col:List Int}:takeN p c col c.length=takeT p c col:=by
 unfold takeN takeT;rw [List.take_length]
theorem Yr4:∀ {c:List Line} {k:Nat},Ech p R c→Ech p R (c.take k)
 | [],k,_=>by simp [Ech]
 | l :: c,0,_=>by simp [Ech]
 | l :: c,k+1,⟨h1,h2,h3⟩=>⟨h1,fun m d=>h2 m (List.mem_of_mem_take d),Yr4 h3⟩
theorem Zf9 (d:0<p) {c:List Line} {col:List Int} {k:Nat} (h:Ech p R c) (hc:InR p R col):Taken p R (c.take k) col (fun _=>0) (takeN p c col k) :=
 taken d (Yr4 h) hc (fun _=>⟨x37_,d⟩) fun _ _=>rfl
theorem Xq6 {s:List Int × (Nat→Int)} {l:Line} (h:(s.1.getD l.lead 0 * l.inv) % p=0):stepT p s l=s:=if_pos h
theorem Xq7 {s:List Int × (Nat→Int)} {l:Line} {t:Int} (h:(s.1.getD l.lead 0 * l.inv) % p=t) (c:t≠0):stepT p s l=(subU p s.1 l t s.1.length,upd s.2 l.place t):=by
 subst h;exact if_neg c
end Go.Proofs.YtnaebbjodfnooaaGreatDoor.Wp.L
namespace Go.Proofs.YtnaebbjodfnooaaGreatDoor.Wp.L
open Go.RowKit
theorem Vs5:Go.Maps.Keyed Tryz.prog 3 := Go.Maps.int_keyed Tryz.underlying3
def MapAt (w:World) (b n:Nat) (f:Nat→Int):Prop:=∃ D:DataW Unit,w.ownsMap Tryz.prog 3 (plainElem Tryz.prog 3) b n D∧Reads D f
theorem MapAt.kept {w w':World} {b n:Nat} {f:Nat→Int} {row:Option Nat} (h:MapAt w b n f) (e:w.grownBy w' row) (g:some b≠row):MapAt w' b n f:=by
 obtain ⟨D,c,d⟩:=h;exact ⟨D,c.kept e g,d⟩
theorem MapAt.lt {w:World} {b n:Nat} {f:Nat→Int} (h:MapAt w b n f):b<w.heap.size:=by
 obtain ⟨D,c,_⟩:=h;exact c.lt
theorem MapAt.mono {w:World} {b n c:Nat} {f:Nat→Int} (h:MapAt w b n f) (g:n≤c):MapAt w b c f:=by
 obtain ⟨D,d,e⟩:=h;exact ⟨D,d.mono g,e⟩
theorem MapAt.not_row {w:World} {b n:Nat} {f:Nat→Int} (h:MapAt w b n f) {base p k:Nat} {e:TypeId} {v:Value} {q:List Value} (o:w.ownsRow base e p v k q):some b≠v.ownBlock:=by
 obtain ⟨D,⟨es,s,d,_⟩,_⟩:=h;rcases o.2 with ⟨rfl,_⟩ | ⟨g,r,u,rfl,_,c,_⟩
 ·simp [Value.ownBlock]
 ·intro j
  have m:b=g:=by simpa [Value.ownBlock] using j
  subst m;rw [d] at c;cases c
def J4_ (u:Value) (b:Nat) (l:Line):List Value:=[.int .i64 (l.place:Int),u,.int .i64 (l.lead:Int),.int .i64 l.inv,.map (some b)]
def Yi2 (w:World) (B:Nat) (v:Value) (ls:List Line):Prop :=
 ∃ A c,v=.slice A ls.length c∧(ls.length≤c∧c≤maxLen∧(A=none→c=0)) ∧
  ∀ k (hk:k<ls.length),∃ (ad:Addr) (u:Value) (b:Nat),A=some ad∧ad.block<B ∧
   (w.cell? (ad.add (k * 5))=some (.int .i64 ((ls[k]).place:Int))∧w.cell? ⟨(ad.add (k * 5)).block,(ad.add (k * 5)).off+1,none⟩=some u ∧
    w.cell? ⟨(ad.add (k * 5)).block,(ad.add (k * 5)).off+2,none⟩=some (.int .i64 ((ls[k]).lead:Int))∧w.cell? ⟨(ad.add (k * 5)).block,(ad.add (k * 5)).off+3,none⟩=some (.int .i64 (ls[k]).inv) ∧
    w.cell? ⟨(ad.add (k * 5)).block,(ad.add (k * 5)).off+4,none⟩=some (.map (some b))) ∧
   Row w B u (ls[k]).left∧b<B∧MapAt w b 64 (ls[k]).by_
def flatL:List (Value × Nat × Line)→List Value
 | []=>[]
 | (u,b,l) :: r=>J4_ u b l ++ flatL r
theorem Zj2:∀ (a b:List (Value × Nat × Line)),flatL (a ++ b)=flatL a ++ flatL b
 | [],b=>rfl
 | (u,c,l) :: a,b=>by simp [flatL,Zj2 a b]
theorem Yr5:∀ (c:List (Value × Nat × Line)) (k i:Nat) (f:k<c.length),i<5→(flatL c)[k * 5+i]?=(J4_ c[k].1 c[k].2.1 c[k].2.2)[i]?
 | [],k,i,h,_=>absurd h j37_
 | (u,b,l) :: r,0,i,_,hi=>by
  simp only [flatL,Nat.zero_mul,Nat.zero_add,List.getElem_cons_zero];rw [List.getElem?_append_left (by simp [J4_];omega)]
 | (u,b,l) :: r,k+1,i,h,hi=>by
  have e:=Yr5 r k i (by simp at h;omega) hi;have d:(k+1) * 5+i=5+(k * 5+i):=x37_;rw [d];simp only [flatL,List.getElem_cons_succ];rw [List.getElem?_append_right (by simp [J4_]),show 5+(k * 5+i) - (J4_ u b l).length=k * 5+i by simp [J4_]];exact e
structure OwnL (w:World) (base:Nat) (v:Value) (ns:List (Value × Nat × Line)):Prop where
 own:w.ownsRow base 199 5 v ns.length (flatL ns)
 rows:∀ x∈ns,w.ownsRow base 3 1 x.1 x.2.2.left.length (ints x.2.2.left)
 maps:∀ x∈ns,base≤x.2.1∧MapAt w x.2.1 64 x.2.2.by_
theorem Vc3 (w:World) (base:Nat):OwnL w base (.slice none 0 0) []:=⟨World.ownsRow_nil _ _ _ _,fun _ h=>z46_,fun _ h=>z46_⟩
theorem OwnL.kept {w w':World} {base:Nat} {v:Value} {f:List (Value × Nat × Line)} (h:OwnL w base v f) (d:w.grownBy w' none):OwnL w' base v f:=by
 have e:∀ (u:Value),u.ownBlock=none∨u.ownBlock≠none:=fun u=>by
  rcases u.ownBlock with _ | k
  ·exact .inl rfl
  ·exact .inr j37_
 exact ⟨h.own.kept d (e v),fun x c=>(h.rows x c).kept d (e x.1),fun x c=>⟨(h.maps x c).1,(h.maps x c).2.kept d j37_⟩⟩
theorem OwnL.grow {w w':World} {base:Nat} {v m:Value} {k e:List (Value × Nat × Line)} (h:OwnL w base v k) (f:w.grownBy w' v.ownBlock) (o:w'.ownsRow base 199 5 m e.length (flatL e))
  (g:∀ x∈e,x∈k∨(w.ownsRow base 3 1 x.1 x.2.2.left.length (ints x.2.2.left)∧base≤x.2.1∧MapAt w x.2.1 64 x.2.2.by_)):OwnL w' base m e:=by
 have j:∀ x∈e,w.ownsRow base 3 1 x.1 x.2.2.left.length (ints x.2.2.left):=fun x d=>(g x d).elim (fun c=>h.rows x c) fun c=>c.1;have c:∀ x∈e,base≤x.2.1∧MapAt w x.2.1 64 x.2.2.by_:=fun x d=>(g x d).elim (fun c=>h.maps x c) fun c=>c.2;exact ⟨o,fun x d=>(j x d).kept f (Zv3 (j x d) h.own q38_),fun x d=>⟨(c x d).1,(c x d).2.kept f ((c x d).2.not_row h.own)⟩⟩
theorem OwnL.lines {w:World} {base:Nat} {v:Value} {c:List (Value × Nat × Line)} (h:OwnL w base v c):Yi2 w w.heap.size v (c.map fun x=>x.2.2):=by
 have hc:=h.own;rcases hc.2 with ⟨rfl,p⟩ | ⟨g,o,y,rfl,hb,z,q,r,_⟩
 ·have:c=[]:=List.eq_nil_of_length_eq_zero p
  subst this;exact j6_
 ·refine ⟨_,o,by rw [List.length_map],⟨by rw [List.length_map];exact q,r,fun e=>by cases e⟩,fun k hk=>?_⟩
  have m:k<c.length:=by simpa using hk
  have j:c[k]∈c:=List.getElem_mem m;have cell:∀ i u,i<5→(J4_ c[k].1 c[k].2.1 c[k].2.2)[i]?=some u→w.cell? (Addr.add ⟨g,0,none⟩ (k * 5+i))=some u:=fun i u hi s =>
   World.ownsRow.cells hc (g:=g) rfl _ _ ((Yr5 c k i m hi).trans s)
  have d:∀ i,(⟨((⟨g,0,none⟩:Addr).add (k * 5)).block,((⟨g,0,none⟩:Addr).add (k * 5)).off+i,none⟩:Addr)=(⟨g,0,none⟩:Addr).add (k * 5+i):=by
   intro i;unfold Addr.add;by_cases f:k * 5=0
   ·by_cases hi:i=0
    ·simp [f,hi]
    ·simp [f,hi]
   ·simp [f]
  refine ⟨_,c[k].1,c[k].2.1,rfl,(World.ownsRow.lt hc g rfl).2,?_,?_,(h.maps _ j).2.lt,?_⟩
  ·simp only [List.getElem_map]
   refine ⟨cell 0 _ x37_ rfl,?_,?_,?_,?_⟩
   ·rw [d];exact cell 1 _ x37_ rfl
   ·rw [d];exact cell 2 _ x37_ rfl
   ·rw [d];exact cell 3 _ x37_ rfl
   ·rw [d];exact cell 4 _ x37_ rfl
  ·simp only [List.getElem_map]
   exact Row.of_own (h.rows _ j) rfl
  ·simp only [List.getElem_map]
   exact (h.maps _ j).2
theorem clone_any (v:Value) (zs:List Int) (w:World) (m:Row w w.heap.size v zs) (hl:zs.length≤1048576) :
  Calls Tryz.prog 17 #[v] w fun e w'=>∃ u,e=.returned u∧w'.ownsRow w.heap.size 3 1 u zs.length (ints zs)∧Below w.heap.size w w':=by
 have o:=hid m;obtain ⟨A,c,rfl,j,h⟩:=m;rcases A with _ | C
 ·have x:zs=[]:=by
   cases zs with
   | nil=>rfl
   | cons y r =>
    obtain ⟨_,hA,_⟩:=h 0 j37_;cases hA
  subst x;obtain rfl:=j.2.2 rfl;clear h j;have z:∀ (w:World) (a:Option Addr) (n c g d:Nat),(binOp .eql 26 (.slice a n c) (.slice none g d)).run Tryz.prog w=.ok (.bool a.isNone) w:=fun w a n c g d=>Lib.run_eql_slice_nil w _ _ a n c g d Tryz.underlying26
  go_enter Tryz.func17,Tryz.ntmps17
  go_wp2;go_ret;exact ⟨_,rfl,World.ownsRow_nil _ _ _ _,Below.refl _ _⟩
 ·have k:Hid ((w.alloc (.cells #[] 3)).ownsRow w.heap.size 3 1 (.slice (some ⟨w.heap.size,0,none⟩) 0 0) ([]:List Int).length (ints [])) :=
   World.ownsRow_lit w #[] 0 (le_refl _) z38_ rfl
  have D:(zs.length:Int)≤1048576:=x37_;clear h j;have z:∀ (w:World) (a:Option Addr) (n c g d:Nat),(binOp .eql 26 (.slice a n c) (.slice none g d)).run Tryz.prog w=.ok (.bool a.isNone) w:=fun w a n c g d=>Lib.run_eql_slice_nil w _ _ a n c g d Tryz.underlying26
  go_enter Tryz.func17,Tryz.ntmps17
  go_wp2_with (at_builtin;refine Z4_ rfl _ _ rfl w.heap.size _ _ _ [] zs rfl rfl k.out (o.out.upA _) j37_ x37_ j37_ ?_)
  intro E B s q;have p:Below w.heap.size w B:=((Below.refl _ w).alloc (le_refl _) _).grown q j37_ (fun i hi=>(k.out.lt i hi).1);go_wp2;go_ret;exact ⟨_,rfl,s,p⟩
theorem isMap_of {w:World} {b n:Nat} {D:DataW Unit} (h:w.ownsMap Tryz.prog 3 (plainElem Tryz.prog 3) b n D):Maps.IsMap D:=by
 obtain ⟨_,_,_,_,_,c⟩:=h;exact ⟨_,c⟩
def Takes (w:World) (left:List Int) (f:Nat→Int) (e:Ending) (w':World):Prop :=
 ∃ u b,e=.returned (.tuple #[u,.map (some b)])∧w'.ownsRow w.heap.size 3 1 u left.length (ints left)∧w.heap.size≤b∧MapAt w' b 64 f∧Below w.heap.size w w'
theorem W8_ {zs:List Int} {j:Nat} (h:j<zs.length):(ints zs)[j]?=some (.int .i64 (zs.getD j 0)):=by
 simp [ints,List.getD,h]
theorem Vc4 (zs:List Int) (j:Nat) (x:Int):(ints zs).set j (.int .i64 x)=ints (zs.set j x):=by
 unfold ints;rw [List.map_set]
theorem Vc5 (p:Int) (R:Nat) (v vc:Value) (j:List Line) (col:List Int) (w:World) (zi:2≤p) (x8:p≤2147483647) (y5:Yi2 w w.heap.size v j) (hE:Ech p R j) (y4:Row w w.heap.size vc col) (hc:InR p R col) (hR:R≤64) (hn:j.length≤64) (ye:∀ l∈j,l.place<64) :
  Calls Tryz.prog 181 #[.int .i64 p,v,vc] w (Takes w (takeT p j col).1 (takeT p j col).2):=by
 have z9:=hid y5;have T:=hid hE;have Hc:=hid hc;have yr:=hid ye;have xr:=hid (fun a w=>Zn2 a p w ⟨x37_,x8⟩);obtain ⟨A,c,rfl,_,y3⟩:=y5;have Hcells:=hid y3;have zh:(j.length:Int)≤64:=x37_;clear y3;have z3:=@run_makeMap Tryz.prog
 go_enter Tryz.func181,Tryz.ntmps181
 go_wp2_with fail
 refine (clone_any vc col w y4 (by rw [hc.1];omega)).mono ?_;rintro e S ⟨u,rfl,yc,xz⟩;have yq:=hid yc;have xb:=hid xz;clear y4 hE hc yc xz ye;obtain ⟨o,Q⟩:∃ o,o=S.heap.size:=⟨_,rfl⟩;have xn:Hid (MapAt (S.alloc (.map #[] 0)) o 0 (fun _=>0)):=by
  show MapAt _ _ _ _;rw [Q];exact ⟨_,World.ownsMap_made S Tryz.prog 3 _,Yi1⟩
 have xs:Hid ((S.alloc (.map #[] 0)).ownsRow w.heap.size 3 1 u R (ints col)):=by
  show World.ownsRow _ _ _ _ _ _ _;rw [← Hc.out.1];exact yq.out.alloc _
 have xq:Hid (w.heap.size≤o):=by
  show _≤_;rw [Q];exact xb.out.size
 have xj:Hid (Below w.heap.size w (S.alloc (.map #[] 0))):=xb.out.alloc xb.out.size _;go_wp2;rw [← Q];have za:=hid Q;clear Q z3
 go_loopw [19] (fun vk wr=>∃ k:Nat,vk=.int .i64 k∧k≤j.length∧wr.ownsRow w.heap.size 3 1 u R (ints (takeN p j col k).1)∧MapAt wr o k (takeN p j col k).2∧Below w.heap.size w wr) (fun vk _=>j.length - (intOf vk).toNat)
 case atStart=>exact ⟨0,rfl,Nat.zero_le _,xs.out,xn.out,xj.out⟩
 case round =>
  obtain ⟨k,rfl,hk,yb,y6,y0⟩:=hrel;clear xs xn xj;have B:=hid y0;have N:=hid y6;have E:=hid yb;clear y0 y6 yb;by_cases x7:k<j.length
  ·obtain ⟨ad,u',F,hA,hab,⟨q0,q1,q2,q3,q4⟩,yi,zb,z2⟩:=Hcells.out k x7
   subst hA;have M:=(Zf9 x37_ T.out Hc.out (k:=k)).row;have ya:=Vd7 T.out _ (List.getElem_mem x7);have yj:=Xq5 (p:=p) (col:=col) x7;generalize hs:takeN p j col k=s at *
   have z6:=yr.out _ (List.getElem_mem x7);generalize hl:j[k]=l at *
   have xv:=hid yj;have x1:=hid ya;have H:=hid M;have yt:=hid yi;clear yj ya M yi hs hl z2 Hcells T;obtain ⟨lf,f⟩:=s;obtain ⟨m,L,d,h,O⟩:=l;simp only at q0 q1 q2 q3 q4 z6;have xg:d<R:=x1.out.lt;have K:=H.out.get x37_ d;have P:=x1.out.invr;have x6:=x1.out.row.1;obtain ⟨A',G,yk,_,yg⟩:=yt.out;have ys:=hid yg;simp only at x6;rw [x6] at yk;subst yk;have ym:=hid x6;clear yg x6;simp only at K P;obtain ⟨g,cu,rfl,z0⟩:=M1_ E.out x37_;have x4:wr.cell? ⟨g,d,none⟩=some (.int .i64 (lf.getD d 0)):=by
    rw [E.out.cellAt d x37_,W8_ (by rw [H.out.1];exact xg)]
   obtain ⟨x,x9⟩:∃ x,x=lf.getD d 0:=⟨_,rfl⟩;rw [← x9] at x4 K;have z4:=Zf8 x8 K.1 K.2 P.1 P.2;have zg:=Yq5 x8 K.1 K.2 P.1 P.2;have e0:=(B.out.cell (p:=ad.add (k * 5)) j38_).trans q0;have e1:=(B.out.cell (p:=⟨(ad.add (k * 5)).block,(ad.add (k * 5)).off+1,none⟩) k41_).trans q1;have e2:=(B.out.cell (p:=⟨(ad.add (k * 5)).block,(ad.add (k * 5)).off+2,none⟩) k41_).trans q2;have e3:=(B.out.cell (p:=⟨(ad.add (k * 5)).block,(ad.add (k * 5)).off+3,none⟩) k41_).trans q3;have e4:=(B.out.cell (p:=⟨(ad.add (k * 5)).block,(ad.add (k * 5)).off+4,none⟩) k41_).trans q4;clear q0 q1 q2 q3 q4;have Z:=hid (Blk.new wr 199 #[.int .i64 (m:Int),.slice A' R G,.int .i64 (d:Int),.int .i64 h,.map (some F)]);have xe:=hid (E.out.alloc (.cells #[.int .i64 (m:Int),.slice A' R G,.int .i64 (d:Int),.int .i64 h,.map (some F)] 199));have xp:=hid (N.out.kept (World.grownBy_alloc wr (.cells #[.int .i64 (m:Int),.slice A' R G,.int .i64 (d:Int),.int .i64 h,.map (some F)] 199) none) j37_);have xl:=hid (B.out.alloc B.out.size (.cells #[.int .i64 (m:Int),.slice A' R G,.int .i64 (d:Int),.int .i64 h,.map (some F)] 199));have xm:Hid (g≠wr.heap.size∧o≠wr.heap.size∧w.heap.size≤wr.heap.size):=by
    have h1:=(E.out.lt g rfl).2;have h2:=N.out.lt;exact ⟨x37_,x37_,B.out.size⟩
   clear x4;obtain ⟨t,ht⟩:∃ t,t=x * h % p:=⟨_,rfl⟩;have xh:=em_lt (a:=x * h) (p:=p) x37_;have Ht:=hid (fun w=>xr.out (x * h) w);rw [← ht] at xh Ht;have xw:Hid ((lf.getD d 0 * h) % p=t):=by
    show _=_;rw [← x9,ht]
   have zo:IntKind.i64.wrap (x * h)=x * h:=by
    rw [IntKind.wrap_i64];omega
   have yw:=hid x9;clear ht x9 z4 E N;go_wp2;generalize wr.alloc (.cells #[.int .i64 (m:Int),.slice A' R G,.int .i64 (d:Int),.int .i64 h,.map (some F)] 199)=W at *
   have x4:W.cell? ⟨g,d,none⟩=some (.int .i64 x):=by
    rw [xe.out.cellAt d x37_,W8_ (by rw [H.out.1];exact xg),← yw.out]
   generalize wr.heap.size=bx at *
   have C:=Z.out.cell 2;have d3:=Z.out.cell 3;simp only [List.getElem?_toArray,List.getElem?_cons_zero,List.getElem?_cons_succ] at C d3;have zf:(d:Int)<(R:Int):=x37_
   go_quiet ((go_at_call 186;exact Calls.quiet_of_same (Ht.out _)))
   have x2:Hid ((W.drewN nq).ownsRow w.heap.size 3 1 (.slice (some ⟨g,0,none⟩) R cu) R (ints lf)):=xe;have Y:Hid (MapAt (W.drewN nq) o k f):=xp;have V:Hid (Below w.heap.size w (W.drewN nq)):=hid (Y2_ xl.out nq);have x0:Hid (Blk (W.drewN nq) bx 199 #[.int .i64 (m:Int),.slice A' R G,.int .i64 (d:Int),.int .i64 h,.map (some F)]):=Z;clear x4 C d3 xe xp xl Z;generalize W.drewN nq=W2 at *
   by_cases h0:t=0
   ·subst h0
    have J:=hid (xv.out.trans (Xq6 xw.out));go_wp2
    go_roundw
    case rel =>
     refine ⟨k+1,y38_,x37_,?_,?_,V.out⟩
     ·rw [J.out];exact x2.out
     ·rw [J.out];exact Y.out.mono (Nat.le_succ k)
    case measure=>simp [intOf];omega
   ·have zl:(t==0)=false:=by rw [beq_eq_false_iff_ne];exact h0
    have d0:=x0.out.cell 0;simp only [List.getElem?_toArray,List.getElem?_cons_zero] at d0;have C:=x0.out.cell 2;simp only [List.getElem?_toArray,List.getElem?_cons_zero,List.getElem?_cons_succ] at C;obtain ⟨D,xx,xy⟩:=Y.out;have xa:=hid xx;have xi:=hid xy;have yo:=hid (Y.out.not_row x2.out);have yv:=hid (WalkArith.wf_i64 (n:=(m:Int)) x37_);have yu:=hid (WalkArith.wf_i64 (n:=t) x37_);have D2:=hid C;clear xx xy C
    go_wp2_with (at_mapUpdate;refine wpList_mapUpdate_own _ rfl _ _ _ 193 rfl 3 3 Vs5 Tryz.underlying193 _ o k _ rfl xa.out z38_ _ _ _ rfl rfl (Maps.keyOf_int_mk Tryz.underlying3 yv.out) _ [] (plainElem_int Tryz.underlying3 yu.out) ?_)
    intro w3 y7 x5;have xo:Hid (MapAt w3 o (k+1) (upd f m t)):=⟨_,y7,Xp8 (isMap_of xa.out) xi.out m h0 trivial⟩;have xt:=hid (x2.out.kept x5 (.inr (fun e=>yo.out e.symm)));have xc:=hid (x0.out.grown x5 (by have:=xm.out.2.1;intro e;injection e with e;omega));have xk:=hid (V.out.grown x5 V.out.size (fun i hi=>by injection hi with hi;rw [← hi];exact xq.out));have C:=xc.out.cell 2;simp only [List.getElem?_toArray,List.getElem?_cons_zero,List.getElem?_cons_succ] at C;clear y7 x5 x2 Y x0 V xa xi D2 d0;have J:=hid (xv.out.trans (Xq7 xw.out h0));simp only at J;have xu:Hid (w3.ownsRow w.heap.size 3 1 (.slice (some ⟨g,0,none⟩) R cu) R (ints (subU p lf ⟨m,L,d,h,O⟩ t d))):=by
     show World.ownsRow _ _ _ _ _ _ _;rw [show subU p lf ⟨m,L,d,h,O⟩ t d=lf from Xq4 (l:=⟨m,L,d,h,O⟩)];exact xt.out
    clear xt;go_wp2
    go_loopw [13] (fun vr wq=>∃ r:Nat,vr=.int .i64 r∧d≤r∧r≤R∧wq.ownsRow w.heap.size 3 1 (.slice (some ⟨g,0,none⟩) R cu) R (ints (subU p lf ⟨m,L,d,h,O⟩ t r))∧MapAt wq o (k+1) (upd f m t) ∧
     Blk wq bx 199 #[.int .i64 (m:Int),.slice A' R G,.int .i64 (d:Int),.int .i64 h,.map (some F)]∧Below w.heap.size w wq) (fun vr _=>R - (intOf vr).toNat)
    case atStart=>exact ⟨d,rfl,le_refl _,Nat.le_of_lt xg,xu.out,xo.out,xc.out,xk.out⟩
    case round =>
     clear xu xo xc xk C;obtain ⟨r,rfl,z7,zj,yd,y8,y9,y1⟩:=hrel;have I:=hid yd;have X:=hid y8;have xd:=hid y9;have U:=hid y1;clear yd y8 y9 y1;by_cases yf:r<R
     ·have yh:r<lf.length:=by rw [H.out.1];exact yf
      obtain ⟨yx,yy,yz,y2⟩:=ys.out r (by rw [ym.out];exact yf);subst yy;have zd:=(U.out.cell (p:=yx.add r) (by rw [Z2_];exact yz)).trans y2;have zc:wr.cell? ⟨g,r,none⟩=some (.int .i64 (lf.getD r 0)):=by
       rw [I.out.cellAt r x37_,W8_ (by rw [A3_];exact yh),Vs4 yh]
      have ze:wr.frozen? ⟨g,r,none⟩=false:=I.out.frozenAt r;have hy:=H.out.get x37_ r;have hz:=x1.out.row.get x37_ r;simp only at hz;have xf:=hid (Xp9 (p:=p) (left:=lf) (l:=⟨m,L,d,h,O⟩) (t:=t) (r:=r) z7);simp only at xf;generalize lf.getD r 0=y at *
      generalize L.getD r 0=z at *
      have z5:=Yq5 x8 xh.1 xh.2 hz.1 hz.2;have zm:IntKind.i64.wrap (t * z)=t * z:=x38_;have zn:IntKind.i64.wrap (y - t * z)=y - t * z:=x38_;have Hq:=hid (fun w=>xr.out (y - t * z) w);generalize (y - t * z) % p=q at *
      have d1:=xd.out.cell 1;simp only [List.getElem?_toArray,List.getElem?_cons_zero,List.getElem?_cons_succ] at d1;have zk:(r:Int)<(R:Int):=x37_;have x3:=hid (I.out.stored r (.int .i64 q));have yn:=hid (X.out.kept x3.out.2 (by have:=X.out.not_row I.out;exact this));have yp:=hid (xd.out.grown x3.out.2 (by have:=xm.out.1;intro e;injection e with e;omega));have yl:=hid (U.out.setCell (p:=⟨g,r,none⟩) z0 (.int .i64 q));rw [Vc4,xf.out] at x3;clear X xd U I xf y2 z5;go_wp2;refine wp_region_still_tail 17 y37_ y37_ ?_;simp only [List.take_succ_cons,List.take_zero,List.drop_succ_cons,List.drop_zero]
      repeat still_step
      still_call (Hq.out _)
      repeat still_step
      try refine wpStill_nil ?_
      change wpList _ _ _ _ _ wr.drew;go_wp2
      go_roundw
      case rel=>exact ⟨r+1,y38_,x37_,x37_,x3.out.1,yn.out,yp.out,yl.out.drew⟩
      exact mz_
     ·have z8:r=R:=by omega
      subst z8;go_wp2
      go_roundw
      case rel =>
       refine ⟨k+1,y38_,x37_,?_,?_,U.out⟩
       ·rw [J.out,H.out.1];exact I.out
       ·rw [J.out];exact X.out
      case measure=>simp [intOf];omega
  ·have z1:k=j.length:=by omega
   subst z1;have M:=hid (Zf9 x37_ T.out Hc.out (k:=j.length)).row;rw [Xr0] at E N M;go_wp2
   go_ret2
   refine ⟨u,o,rfl,?_,xq.out,N.out.mono hn,B.out⟩;rw [M.out.1];exact E.out
theorem Yq6 (x:Int) (W:World):Calls Tryz.prog 190 #[.int .i64 x] W fun e c=>e=.returned (.bool (decide (x≠0)))∧c=W:=by
 by_cases h:x=0
 ·subst h
  exact z34_
 ·rw [decide_eq_true h]
  have d:(x != 0)=true:=by simp [h]
  exact z34_
theorem Vc6 (w:World):Tests w 190 #[] fun x=>decide (x≠0):=fun x W _=>(Yq6 x W).mono fun e g ⟨c,d⟩=>⟨c,by rw [d];exact Below.refl _ _⟩
theorem Zt0 {zs:List Int} {r:Int} (h:Found (fun x=>decide (x≠0)) 0 zs r):r=leadI zs:=by
 rcases h with ⟨rfl,h⟩ | ⟨i,hi,rfl,d,e⟩
 ·exact (Zz3 fun j c=>by simpa using h j c).symm
 ·exact (Zu8 hi (by simpa using d) fun j c=>by simpa using e j c).symm
theorem Vc7 (v:Value) (zs:List Int) (w:World) (g:Row w w.heap.size v zs) (hl:zs.length≤1048576) :
  Calls Tryz.prog 182 #[v] w fun e w'=>e=.returned (.int .i64 (leadI zs))∧Below w.heap.size w w':=by
 have h:=hid (Zw5 190 #[] _ v zs w (enters_of Tryz.func190 y37_ rfl) g hl (Vc6 w));obtain ⟨A,c,rfl,_⟩:=g
 go_enter Tryz.func182,Tryz.ntmps182
 go_wp2_with fail
 refine (h.out).mono ?_;rintro e k ⟨r,rfl,d,hb⟩;have j:=hid (Zt0 d);clear d;go_wp2;go_ret;exact ⟨by rw [← j.out];rfl,hb⟩
def wrongB (p x:Int):Bool:=decide (x<0∨p≤x)
def badRow (p rows:Int) (col:List Int):Bool:=decide ((col.length:Int)≠rows) || col.any (wrongB p)
def elimB (p rows:Int) (cols:List (List Int)):Bool:=prB p && decide (0≤rows∧rows≤64) && decide (cols.length≤64) && !cols.any (badRow p rows)
theorem wrong_any (p x:Int) (B:Nat) (W:World) (hc:W.cell? ⟨B,0,none⟩=some (.int .i64 p)) :
  Calls Tryz.prog 148 #[.int .i64 x,.pointer (some ⟨B,0,none⟩)] W fun e c=>e=.returned (.bool (wrongB p x))∧Below W.heap.size W c:=by
 unfold wrongB;by_cases h1:x<0
 ·exact q33_
 ·exact x5_
theorem wrongtest (p:Int) (B:Nat) (w:World) (hB:B<w.heap.size) (hc:w.cell? ⟨B,0,none⟩=some (.int .i64 p)):Tests w 148 #[.pointer (some ⟨B,0,none⟩)] (wrongB p) :=
 fun x W c=>wrong_any p x B W ((c.cell (p:=⟨B,0,none⟩) hB).trans hc)
theorem badrow_any (p rows:Int) (bp d g:Nat) (v:Value) (zs:List Int) (w:World) (hbp:bp<w.heap.size) (hp:w.cell? ⟨bp,0,none⟩=some (.int .i64 p)) (j:w.cell? ⟨d,0,none⟩=some (.int .i64 rows))
  (k:w.cell? ⟨g,0,none⟩=some (.func (.func 148) #[] #[.pointer (some ⟨bp,0,none⟩)])) (hr:Row w w.heap.size v zs) (h:rows≤64) :
  Calls Tryz.prog 149 #[v,.pointer (some ⟨d,0,none⟩),.pointer (some ⟨g,0,none⟩)] w fun e w'=>e=.returned (.bool (badRow p rows zs))∧Below w.heap.size w w':=by
 unfold badRow;by_cases hl:(zs.length:Int)=rows
 ·exact z3_
 ·exact q31_
theorem badtest (p rows:Int) (bp c d:Nat) (w:World) (g:bp<w.heap.size) (j:c<w.heap.size) (k:d<w.heap.size) (m:w.cell? ⟨bp,0,none⟩=some (.int .i64 p)) (o:w.cell? ⟨c,0,none⟩=some (.int .i64 rows))
  (r:w.cell? ⟨d,0,none⟩=some (.func (.func 148) #[] #[.pointer (some ⟨bp,0,none⟩)])) (h:rows≤64) :
  Zw4 w 149 #[.pointer (some ⟨c,0,none⟩),.pointer (some ⟨d,0,none⟩)] (badRow p rows) :=
 fun u zs W e q=>badrow_any p rows bp c d u zs W (Nat.lt_of_lt_of_le g e.size) ((e.cell (p:=⟨bp,0,none⟩) g).trans m) ((e.cell (p:=⟨c,0,none⟩) j).trans o) ((e.cell (p:=⟨d,0,none⟩) k).trans r) q h
theorem prime_is (p:Int) (b:Bool) (h:prB p=b) (w:World) (c:Met w):Calls Tryz.prog 147 #[.int .i64 p] w (Gets w (.bool b)):=by
 subst h;exact T9_ p w c
theorem below_two (w:World) (c d:Obj):Below w.heap.size w ((w.alloc c).alloc d):=((Below.refl _ w).alloc (le_refl _) _).alloc j37_ _
theorem may_any (p rows:Int) (v:Value) (cols:List (List Int)) (w:World) (h:Met w) (m:Rows2 w w.heap.size v cols) :
  Calls Tryz.prog 124 #[.int .i64 p,.int .i64 rows,v] w (Says w (elimB p rows cols)):=by
 have r:=hid m;have HM:=hid h;obtain ⟨A,c,rfl,hn,_⟩:=m;have z:(cols.length:Int)≤9223372036854775807:=j41_;have Hb0:=hid (below_two w (.cells #[.int .i64 p] 3) (.cells #[.int .i64 rows] 3));clear hn h;unfold elimB;rcases hp:prB p with _ | _
 ·simp only [Bool.false_and]
  have HP:=hid hp;clear hp
  go_enter Tryz.func124,Tryz.ntmps124
  go_wp2_with fail
  refine (prime_is p false HP.out _ (HM.out.up Hb0.out)).mono ?_;exact k36_
 ·simp only [Bool.true_and]
  have HP:=hid hp;clear hp;by_cases s:rows<0
  ·exact y36_
  ·have u:0≤rows:=by omega
   clear s;by_cases x:64<rows
   ·exact y36_
   ·have g:rows≤64:=by omega
    rw [decide_eq_true (show 0≤rows∧rows≤64 from ⟨u,g⟩),Bool.true_and];clear x;by_cases h3:cols.length≤64
    ·rw [decide_eq_true h3,Bool.true_and]
     have y:(cols.length:Int)≤64:=x37_;generalize k:cols.any (badRow p rows)=cb;have q:=hid k;have o:=hid h3;clear k h3
     go_enter Tryz.func124,Tryz.ntmps124
     go_wp2_with fail
     refine (prime_is p true HP.out _ (HM.out.up Hb0.out)).mono ?_;rintro e w1 ⟨rfl,hb1⟩;have c0:w1.cell? ⟨w.heap.size,0,none⟩=some (.int .i64 p):=(hb1.cell (p:=⟨w.heap.size,0,none⟩) k37_).trans (by simp [go_sem]);have c1:w1.cell? ⟨w.heap.size+1,0,none⟩=some (.int .i64 rows):=(hb1.cell (p:=⟨w.heap.size+1,0,none⟩) j37_).trans (by simp [go_sem]);have Hb1:=hid (Z0_ Hb0.out (le_refl _) hb1);have Hs1:Hid (w.heap.size+1<w1.heap.size):=k6_;clear hb1;have d:Hid (Below w.heap.size w (w1.alloc (.cells #[.func (.func 148) #[] #[.pointer (some ⟨w.heap.size,0,none⟩)]] 49))):=Hb1.out.alloc Hb1.out.size _
     go_wp2_with fail
     refine (L7_ 149 _ (badRow p rows) _ cols _ (enters_of Tryz.func149 y37_ rfl) (r.out.up d.out) (by have:=o.out;omega) (badtest p rows w.heap.size (w.heap.size+1) w1.heap.size _ q46_ q46_ j37_ ?_ ?_ ?_ g)).mono ?_
     ·exact z18_
     ·exact z27_
     ·exact (Blk.new w1 _ _).cell 0
     rintro e B ⟨rfl,j⟩;rw [q.out];have Hb2:=hid (Z0_ d.out (le_refl _) j);clear j;exact y2_
    ·rw [decide_eq_false h3,Bool.false_and]
     have y:64<(cols.length:Int):=x37_;clear h3;exact j28_
theorem Yr6 {p:Int} (h:prB p=true):∀ x,0<x→x<p→p ∣ x * invI x p - 1∧0≤invI x p∧invI x p<p:=by
 intro x j k;obtain ⟨m,o,c⟩:=prB_iff.1 h;obtain ⟨P,rfl⟩:∃ P:Nat,p=P:=⟨p.toNat,x37_⟩;obtain ⟨X,rfl⟩:∃ X:Nat,x=X:=⟨x.toNat,x37_⟩;rw [Int.toNat_natCast] at c;have g:(X:Int) % (P:Int)=X:=Int.emod_eq_of_lt x37_ x37_;obtain ⟨_,e⟩:=Vu7 h x37_ x37_ g x37_;rw [e];have q:X ^ (P - 2) % P<P:=Nat.mod_lt _ x37_;have d:=Vk3 c (Vk4 (x:=X) x37_ x37_);refine ⟨?_,x37_,x37_⟩;generalize X ^ (P - 2) % P=y at *
 have f:((y * X:Nat):Int) % (P:Int)=1:=by
  rw [← Int.natCast_emod,d];rfl
 rw [Int.mul_comm];have:=B8_ (p:=(P:Int)) ((y * X:Nat):Int);rw [f] at this;simpa using this
theorem fld_ok {p:Int} (h:prB p=true):Fld p:=by
 intro c hc;obtain ⟨g,_,_⟩:=prB_iff.1 h;have hb:=em_lt (a:=c) (p:=p) x37_;have j:c % p≠0:=fun e=>hc (Int.dvd_of_emod_eq_zero e);obtain ⟨h3,_⟩:=Yr6 h (c % p) x37_ hb.2;refine ⟨invI (c % p) p,?_⟩;have d:=Int.dvd_trans (B8_ (p:=p) c) (Int.dvd_mul_right _ (invI (c % p) p));have f:=Int.dvd_add h3 d
 rwa [show c % p * invI (c % p) p - 1+(c - c % p) * invI (c % p) p=c * invI (c % p) p - 1 by rw [Int.sub_mul];omega] at f
theorem Jj0 (a p i:Int) (b:Bool) (c:invI a p=i) (d:invB a p=b) (w:World) (e:Met w):Calls Tryz.prog 183 #[.int .i64 a,.int .i64 p] w (Gets w (.tuple #[.int .i64 i,.bool b])):=by
 subst c d;exact Vk2 a p w e
theorem Vc8:(Tryz.prog.info? 199).map (fun i=>(i.zero,i.size,i.bytes))=some (some (.agg #[.int .i64 0,.slice none 0 0,.int .i64 0,.int .i64 0,.map none]),5,56):=y37_
theorem W9_ {w:World} {ops:Array Oper} {rest:List Oper} {o:Oper} {a:Act} {Q:Exit→Act→World→Prop} (z:o.guard=none) (s x:Operand)
  (D:o.op=.call { callee:=.builtin .append,args:=#[s,x],argTypes:=#[188, 188] })
  (base:Nat) (v:Value) (d:List (Value × Nat × Line)) (u:Value) (b:Nat) (l:Line) (hs:a.eval s=v) (p:OwnL w base v d) (g:Nat) (c:a.eval x=.slice (some ⟨g,0,none⟩) 1 1) (hc:Blk w g 199 (J4_ u b l).toArray) (F:u.oneCell'=true)
  (E:w.ownsRow base 3 1 u l.left.length (ints l.left)) (C:base≤b∧MapAt w b 64 l.by_) (K:d.length≤64) (hb:base≤w.heap.size)
  (h:∀ e w',OwnL w' base e (d ++ [(u,b,l)])→w.grownBy w' v.ownBlock→wpList Tryz.prog ops Q rest (a.put o.dst e) w'):wpList Tryz.prog ops Q (o :: rest) a w:=by
 obtain ⟨J,hi,G,H,I⟩:=info_parts Vc8;refine wpList_append_own_at w z s x _ D base 199 J (.agg #[.int .i64 0,.slice none 0 0,.int .i64 0,.int .i64 0,.map none]) 5 56 y37_ hi G H I rfl q38_ v d.length (flatL d) hs p.own ⟨g,0,none⟩ 1 1 (J4_ u b l) c (by simp [J4_]) ?_ ?_ ?_ ?_ hb ?_
 ·intro j y B
  have f:=hc.cell j;rw [show (J4_ u b l).toArray[j]?=some y by simpa using B] at f;unfold Addr.add;by_cases m:j=0
  ·subst m
   simpa using f
  ·simpa [m] using f
 ·intro y q
  simp only [J4_,List.mem_cons,List.not_mem_nil,or_false] at q;rcases q with rfl | rfl | rfl | rfl | rfl
  ·rfl
  ·exact F
  ·rfl
  ·rfl
  ·rfl
 ·unfold maxLen;omega
 ·have:(d.length+1) * 56≤65 * 56:=Nat.mul_le_mul x37_ (le_refl _)
  omega
 ·intro e w' r k _ _
  refine h e w' (p.grow k ?_ fun x c=>?_) k
  ·rw [Zj2,List.length_append]
   simpa [flatL] using r
  ·rcases List.mem_append.1 c with c | c
   ·exact .inl c
   ·obtain rfl:=List.mem_singleton.1 c
    exact .inr ⟨E,C⟩
theorem own_le {w:World} {base d:Nat} {e:TypeId} {f:Nat} {v:Value} {n:Nat} {j:List Value} (h:w.ownsRow base e f v n j) (hb:d≤base):w.ownsRow d e f v n j:=by
 obtain ⟨q,c⟩:=h;refine ⟨q,?_⟩;rcases c with c | ⟨g,o,p,k,r,m⟩
 ·exact .inl c
 ·exact .inr ⟨g,o,p,k,x37_,m⟩
def Vg2 (w:World) (ls:List Line) (e:Ending) (w':World):Prop:=∃ v,e=.returned v∧Yi2 w' w'.heap.size v ls∧Below w.heap.size w w'
theorem Vc9 (p:Int) (R:Nat) (v:Value) (cols:List (List Int)) (w:World) (hM:Met w) (W:prB p=true) (hr:Rows2 w w.heap.size v cols) (hc:Zb3 p R cols) (hR:R≤64) (hn:cols.length≤64) :
  Calls Tryz.prog 170 #[.int .i64 p,v] w (Vg2 w (R2_ p (fun x=>invI x p) cols cols.length)):=by
 have Hr:=hid hr;have HM:=hid hM;have Hc:=hid hc;have HP:=hid W;obtain ⟨h2,xx,_⟩:=prB_iff.1 W;obtain ⟨A,c,rfl,_,xb⟩:=hr;have xr:=hid xb;have y8:(cols.length:Int)≤64:=x37_;clear hM hc W xb
 go_enter Tryz.func170,Tryz.ntmps170
 go_wp2
 go_loopw [5,15] (fun vb Y wr=>∃ (k:Nat) (r:List (Value × Nat × Line)),Y=.int .i64 k∧k≤cols.length∧OwnL wr w.heap.size vb r∧r.map (fun x=>x.2.2)=R2_ p (fun x=>invI x p) cols k∧Below w.heap.size w wr) (fun _ Y _=>cols.length - (intOf Y).toNat)
 case atStart=>exact ⟨0,[],rfl,Nat.zero_le _,Vc3 _ _,rfl,Below.refl _ _⟩
 case round =>
  obtain ⟨k,r,rfl,hk,xl,xj,xa⟩:=hrel;have L:=hid xl;have h:=hid xj;have d:=hid xa;clear xl xj xa;by_cases xg:k<cols.length
  ·obtain ⟨ad,u,hA,hab,xc,xn⟩:=xr.out k xg
   subst hA;have y4:=(d.out.cell (p:=ad.add k) j38_).trans xc;have M:=hid ((xn.below d.out).mono d.out.size);have F:=Zb2 x37_ (Yr6 HP.out) (cols:=cols) (k:=k) fun i hi=>Hc.out i x37_;have D:=Hc.out k xg;obtain ⟨cl,E⟩:∃ cl,cl=cols.getD k []:=⟨_,rfl⟩;rw [← E] at D M;have xh:r.length≤64:=by
    have e1:=congrArg List.length h.out;rw [List.length_map] at e1;have e2:=congrArg List.length F.pl;rw [List.length_map] at e2;have e3:=Xb4 (p:=p) (R:=R) (cols:=cols) (k:=k);omega
   have N:=hid (F.take x37_ D);have Hlines:=hid F;have xs:=hid D;have K:Hid (R2_ p (fun x=>invI x p) cols (k+1)=addL p (fun x=>invI x p) (R2_ p (fun x=>invI x p) cols k) k cl):=by
    show _=_;rw [E];rfl
   have y1:=hid E;have HlinesAt:=hid L.out.lines;clear F D E xc xn;rw [h.out] at HlinesAt;obtain ⟨m,U⟩:∃ m,m=R2_ p (fun x=>invI x p) cols k:=⟨_,rfl⟩;rw [← U] at HlinesAt N Hlines K h;have xz:m.length≤64:=by rw [← h.out,List.length_map];exact xh
   have y2:=hid U;clear U
   go_wp2_with fail
   refine (Vc5 p R _ _ m cl _ h2 xx HlinesAt.out Hlines.out.ech M.out xs.out hR xz (fun l hl=>Nat.lt_of_lt_of_le (Hlines.out.lt hl) x37_)).mono ?_;rintro e w1 ⟨H,C,rfl,G,y3,V,Q⟩;generalize hT:takeT p m cl=T at *
   obtain ⟨lf,f⟩:=T;simp only at G V;have P:=N.out.row;simp only at P;have x0:=hid P;have HT:=hid hT;have x7:=hid G;have x4:=hid V;have xp:=hid Q;have HownL1:=hid (L.out.kept (Z8_ Q none));have x9:=hid (Row.of_own G rfl);clear G V Q P hT N HlinesAt M
   go_wp2_with fail
   refine (Vc7 H lf w1 x9.out (by rw [x0.out.1];omega)).mono ?_;rintro e w2 ⟨rfl,o⟩;have y0:=hid o;have I:=hid (Z0_ (Z0_ d.out (le_refl _) xp.out) (le_refl _) o);have HownL2:=hid (HownL1.out.kept (Z8_ o none));have xi:H.ownBlock=none∨H.ownBlock≠none:=by
    rcases H.ownBlock with _ | q
    ·exact .inl rfl
    ·exact .inr j37_
   have B:=hid (x7.out.kept (Z8_ o none) xi);have x5:=hid (x4.out.kept (Z8_ o none) j37_);clear o xi x7 x4 HownL1 x9;rcases R8_ lf with ⟨hl,_⟩ | ⟨i,xf,hl,hx,_⟩
   ·rw [hl]
    have z:Hid (R2_ p (fun x=>invI x p) cols (k+1)=m):=by
     show _=_;rw [K.out];unfold addL;rw [HT.out,if_pos (by rw [hl];decide)]
    clear hl;go_wp2
    go_roundw
    case rel=>exact ⟨k+1,r,y38_,x37_,HownL2.out,by rw [z.out];exact h.out,I.out⟩
    exact mz_
   ·rw [hl]
    have y7:i<R:=by rw [← x0.out.1];exact xf
    obtain ⟨g,O,rfl,y5⟩:=M1_ B.out x37_;have xd:w2.cell? ⟨g,i,none⟩=some (.int .i64 (lf.getD i 0)):=by
     rw [B.out.cellAt i x37_,W8_ xf]
    obtain ⟨x,X⟩:∃ x,x=lf.getD i 0:=⟨_,rfl⟩;rw [← X] at xd hx;have y6:(i:Int)<(lf.length:Int):=x37_;have z:Hid (R2_ p (fun x=>invI x p) cols (k+1)=m ++ [⟨k,lf,i,invI x p,f⟩]):=by
     show _=_;rw [K.out];unfold addL;rw [HT.out];simp only;rw [hl,if_neg x37_,Int.toNat_natCast,← X]
    obtain ⟨j,S⟩:∃ j,j=invI x p:=⟨_,rfl⟩;obtain ⟨ok,xk⟩:∃ ok,ok=invB x p:=⟨_,rfl⟩;have x3:=hid (Jj0 x p j ok S.symm xk.symm);rw [← S] at z;have xo:=hid (HM.out.up I.out);clear hl X S xk hx
    go_wp2_with fail
    refine (x3.out w2 xo.out).mono ?_;rintro e Z ⟨rfl,s⟩;have x1:=hid (Z0_ I.out (le_refl _) s);have HownL3:=hid (HownL2.out.kept (Z8_ s none));have x8:=hid (B.out.kept (Z8_ s none) (.inr (by simp [Value.ownBlock])));have x6:=hid (x5.out.kept (Z8_ s none) j37_);clear s B x5 HownL2 x3 xd;have xu:=hid (Blk.new Z 199 (J4_ (.slice (some ⟨g,0,none⟩) lf.length O) C ⟨k,lf,i,j,f⟩).toArray);have y:=hid (World.grownBy_alloc Z (.cells (J4_ (.slice (some ⟨g,0,none⟩) lf.length O) C ⟨k,lf,i,j,f⟩).toArray 199) none);have J:=hid (x1.out.alloc x1.out.size (.cells (J4_ (.slice (some ⟨g,0,none⟩) lf.length O) C ⟨k,lf,i,j,f⟩).toArray 199));have HownL4:=hid (HownL3.out.kept y.out);have xv:=hid (own_le (x8.out.kept y.out (.inr (by simp [Value.ownBlock]))) d.out.size);have xt:=hid (x6.out.kept y.out j37_);clear HownL3 x8 x6 y
    go_wp2_with (at_builtin;refine W9_ rfl _ _ rfl w.heap.size _ r _ C ⟨k,lf,i,j,f⟩ rfl HownL4.out Z.heap.size rfl xu.out rfl xv.out ⟨by have:=d.out.size;omega,xt.out⟩ xh J.out.size ?_)
    intro v5 w5 xm xe;have xq:=hid (J.out.grown xe J.out.size (fun i hi=>(HownL4.out.own.lt i hi).1));have xw:=hid xm;clear xm xe;go_wp2
    go_roundw
    case rel =>
     refine ⟨k+1,_,y38_,x37_,xw.out,?_,xq.out⟩;rw [List.map_append,h.out,z.out];rfl
    case measure=>simp [intOf];omega
  ·have xy:k=cols.length:=by omega
   subst xy;have x2:=hid L.out.lines;rw [h.out] at x2;go_wp2;go_ret;exact ⟨_,rfl,x2.out,d.out⟩
theorem Vg3 (p rows:Int) (v:Value) (cols:List (List Int)) (b:Bool) (h:elimB p rows cols=b) (w:World) (c:Met w) (d:Rows2 w w.heap.size v cols) :
  Calls Tryz.prog 124 #[.int .i64 p,.int .i64 rows,v] w (Says w b):=by
 subst h;exact may_any p rows v cols w c d
theorem elimB_in {p rows:Int} {cols:List (List Int)} (h:elimB p rows cols=true):prB p=true∧∃ R:Nat,rows=(R:Int)∧R≤64∧cols.length≤64∧Zb3 p R cols:=by
 unfold elimB at h;rw [Bool.and_eq_true,Bool.and_eq_true,Bool.and_eq_true,decide_eq_true_iff,decide_eq_true_iff] at h;obtain ⟨⟨⟨e,m,h3⟩,f⟩,g⟩:=h;refine ⟨e,rows.toNat,x37_,x37_,f,fun i hi=>?_⟩;have j:cols.any (badRow p rows)=false:=by simpa using g
 have c:=List.any_eq_false.1 j cols[i] (List.getElem_mem hi);rw [show cols.getD i []=cols[i] by simp [List.getD,hi]];unfold badRow at c;rw [Bool.or_eq_true,decide_eq_true_iff,not_or,Classical.not_not] at c;refine ⟨x37_,fun x k=>?_⟩;have d:=List.any_eq_false.1 (by simpa using c.2:cols[i].any (wrongB p)=false) x k;unfold wrongB at d;rw [decide_eq_true_iff] at d;omega
theorem Vd0 {p:Int} {R:Nat} {cols:List (List Int)} (d:prB p=true) (g:R≤64) (h3:cols.length≤64) (e:Zb3 p R cols):elimB p (R:Int) cols=true:=by
 unfold elimB;rw [d,decide_eq_true (show (0:Int)≤(R:Int)∧(R:Int)≤64 by omega),decide_eq_true h3];simp only [Bool.true_and];rw [Bool.not_eq_true',List.any_eq_false];intro c hc;obtain ⟨i,hi,rfl⟩:=List.mem_iff_getElem.1 hc;have:=e i hi;rw [show cols.getD i []=cols[i] by simp [List.getD,hi]] at this;unfold badRow;rw [Bool.or_eq_true,decide_eq_true_iff,not_or,Classical.not_not];refine ⟨by rw [this.1],?_⟩;rw [Bool.not_eq_true,List.any_eq_false];intro x f;have:=this.2 x f;unfold wrongB;rw [decide_eq_true_iff];omega
def Yq7 (p:Int) (cols:List (List Int)):List Line:=R2_ p (fun x=>invI x p) cols cols.length
def rankI (p rows:Int) (cols:List (List Int)):Int:=if elimB p rows cols then ((Yq7 p cols).length:Int) else -1
theorem linesI_lines {p:Int} {R:Nat} {cols:List (List Int)} (c:prB p=true) (hc:Zb3 p R cols):Lines p R cols cols.length (Yq7 p cols) :=
 Zb2 (by have:=(prB_iff.1 c).1;omega) (Yr6 c) hc
theorem Zt1 {p:Int} {R:Nat} {cols:List (List Int)} (c:prB p=true) (hc:Zb3 p R cols):(Yq7 p cols).length≤cols.length:=by
 have e:=congrArg List.length (linesI_lines c hc).pl;rw [List.length_map] at e;have:=Xb4 (p:=p) (R:=R) (cols:=cols) (k:=cols.length);omega
theorem rank_any (p rows:Int) (v:Value) (cols:List (List Int)) (w:World) (o:Met w) (s:Rows2 w w.heap.size v cols) :
  Calls Tryz.prog 156 #[.int .i64 p,.int .i64 rows,v] w (Gets w (.int .i64 (rankI p rows cols))):=by
 have j:=hid s;have d:=hid o;obtain ⟨A,c,rfl,_⟩:=s;unfold rankI;rcases hb:elimB p rows cols with _ | _
 ·have g:=hid hb
  clear hb o;simp only [Bool.false_eq_true,if_false]
  go_enter Tryz.func156,Tryz.ntmps156
  go_wp2_with fail
  refine (Vg3 p rows _ cols false g.out w d.out j.out).mono ?_;exact x8_
 ·obtain ⟨k,R,rfl,u,h3,m⟩:=elimB_in hb
  have g:=hid hb;have q:=hid (fun w1 (x:Met w1) (z:Rows2 w1 w1.heap.size (Value.slice A cols.length c) cols)=>Vc9 p R _ cols w1 x k z m u h3);have C:=Zt1 k m;change Hid (∀ w1,Met w1→Rows2 w1 w1.heap.size (Value.slice A cols.length c) cols→Calls Tryz.prog 170 #[.int .i64 p,.slice A cols.length c] w1 (Vg2 w1 (Yq7 p cols))) at q;generalize Yq7 p cols=ls at *
  clear hb o k m;simp only [if_true]
  go_enter Tryz.func156,Tryz.ntmps156
  go_wp2_with fail
  refine (Vg3 p R _ cols true g.out w d.out j.out).mono ?_;rintro e w1 ⟨rfl,hb1⟩;have h:=hid hb1;clear hb1
  go_wp2_with fail
  refine (q.out w1 (d.out.up h.out) (j.out.up h.out)).mono ?_;rintro e E ⟨D,rfl,y,r⟩;have Hb2:=hid (Z0_ h.out (le_refl _) r);obtain ⟨B,c2,rfl,_⟩:=y;clear r;exact y2_
end Go.Proofs.YtnaebbjodfnooaaGreatDoor.Wp.L
namespace Go.Proofs.YtnaebbjodfnooaaGreatDoor.Wp
open Go Go.RowKit
def memP (s:List Int):Nat→Bool:=fun i=>s.contains (i:Int)
def InN (n:Nat) (s:List Int):Prop:=IsSet s∧∀ x∈s,0≤x∧x<(n:Int)
theorem memP_iff {s:List Int} {i:Nat}:memP s i=true↔(i:Int)∈s:=by unfold memP;exact List.contains_iff_mem
theorem Zq8:memP []=noneP:=by funext i;rfl
theorem P3_ {n:Int} {s:List Int} (e:0≤n) (f:n≤64):subB s (allL n)=true↔InN n.toNat s:=by
 constructor
 ·intro h
  obtain ⟨c,_,h3⟩:=subB_iff.1 h;exact ⟨c,fun x d=>by have:=(K0_ e x37_ x).1 (h3 x d);omega⟩
 ·rintro ⟨c,h3⟩
  exact Yd0 e f c fun x d=>by have:=h3 x d;omega
theorem Yi3 {l:List Nat} (h:l.Pairwise (·<·)):(l.map fun i:Nat=>(i:Int)).Pairwise (·<·):=by
 rw [List.pairwise_map];exact h.imp fun h=>by omega
theorem Yq8 (n:Nat):(List.range n).Pairwise (·<·):=List.pairwise_lt_range
theorem Zg0 (n:Nat) (P:Nat→Bool):(pickN n P).Pairwise (·<·):=(Yq8 n).sublist List.filter_sublist
theorem Yq9 {n:Nat} {s:List Int} (h:InN n s):(pickN n (memP s)).map (fun i:Nat=>(i:Int))=s:=by
 refine Zz8 (Yi3 (Zg0 n _)) h.1.1 fun x=>?_;rw [List.mem_map];constructor
 ·rintro ⟨i,hi,rfl⟩
  exact memP_iff.1 (mem_pick.1 hi).2
 ·intro c
  have:=h.2 x c;refine ⟨x.toNat,mem_pick.2 ⟨x37_,memP_iff.2 ?_⟩,x37_⟩;rw [show ((x.toNat:Nat):Int)=x by omega];exact c
theorem Zt2 {α:Type} {n:Nat} {s:List Int} (h:InN n s) (f:Nat→α):s.map (fun x=>f x.toNat)=(pickN n (memP s)).map f:=by
 conv=>lhs;rw [← Yq9 h]
 rw [List.map_map];rfl
theorem X3_ {n:Nat} {s:List Int} (h:InN n s):s.length=cnt (memP s) n:=by
 conv=>lhs;rw [← Yq9 h]
 rw [List.length_map];rfl
theorem L1_ {a b:List Int} (ha:IsSet a) (hb:IsSet b):memP (Y3_ a b)=orP (memP a) (memP b):=by
 funext i
 rw [Bool.eq_iff_iff];unfold orP;rw [Bool.or_eq_true,memP_iff,memP_iff,memP_iff,Q2_ ha hb]
theorem Yr7 {n:Int} (c:0≤n) (d:n≤64) {i:Nat} (hi:i<n.toNat):memP (allL n) i=true:=memP_iff.2 ((K0_ c x37_ _).2 x37_)
theorem P4_ {n:Int} {s:List Int} (c:0≤n) (d:n≤64) (hs:IsSet s) {i:Nat} (hi:i<n.toNat):memP (Z5_ (allL n) s) i=notP (memP s) i:=by
 rw [Bool.eq_iff_iff,memP_iff,Y4_ (F7_ n) hs];unfold notP;rw [Bool.not_eq_true',← Bool.not_eq_true,memP_iff];exact ⟨fun h=>h.2,fun h=>⟨(K0_ c x37_ _).2 x37_,h⟩⟩
theorem Zt3 {n:Int} (c:0≤n) (e:n≤64):InN n.toNat (allL n):=⟨F7_ n,fun x d=>by have:=(K0_ c x37_ x).1 d;omega⟩
theorem D3_ {n:Int} {s:List Int} (c:0≤n) (d:n≤64) (hs:IsSet s):InN n.toNat (Z5_ (allL n) s) :=
 ⟨Q1_ _ _,fun x e=>(Zt3 c d).2 x ((Y4_ (F7_ n) hs x).1 e).1⟩
theorem A8_ {n:Nat} {a b:List Int} (ha:InN n a) (hb:InN n b):InN n (Y3_ a b) :=
 ⟨E8_ a b,fun x c=>((Q2_ ha.1 hb.1 x).1 c).elim (ha.2 x) (hb.2 x)⟩
theorem Zg1 {n:Nat} {a b:List Int} (ha:InN n a) (hb:InN n b):InN n (Z5_ a b) :=
 ⟨Q1_ a b,fun x c=>ha.2 x ((Y4_ ha.1 hb.1 x).1 c).1⟩
theorem Xr1 (n:Nat):InN n []:=⟨J1_,fun x c=>absurd c j37_⟩
def nN (m:Mat):Nat:=m.n.toNat
def edgOf (m:Mat) (i:Nat):Nat × Nat:=(((m.l.getD i []).getD 0 0).toNat,((m.l.getD i []).getD 1 0).toNat)
def clsOf (m:Mat) (i:Nat):Nat:=((row m 0).getD i 0).toNat
def Ya0 (m:Mat) (c:Nat):Nat:=((row m 1).getD c 0).toNat
def Yr8 (m:Mat) (i r:Nat):Prop:=(r:Int)∈m.l.getD i []
def colOf (m:Mat) (i:Nat):Nat→Int:=L.vec (m.l.getD i [])
def stayN (m:Mat) (i:Nat):Nat:=((stayL m).getD i 0).toNat
def sumR (f:Mat→(Nat→Bool)→Nat):List Mat→(Nat→Bool)→Nat
 | [],_=>0
 | x :: r,P=>f x P+sumR f r (fun i=>P (nN x+i))
noncomputable def rkP:Nat→Mat→(Nat→Bool)→Nat
 | 0,_,_=>0
 | k+1,m,P =>
  if m.t=0 then min m.a.toNat (cnt P (nN m))
  else if m.t=1 then N7_ m.a.toNat (nN m) (edgOf m) P
  else if m.t=2 then partR m.a.toNat (nN m) (clsOf m) (Ya0 m) P
  else if m.t=3 then covR (nN m) m.a.toNat (Yr8 m) P
  else if m.t=4 then linR m.b m.a.toNat (nN m) (colOf m) P
  else if m.t=5 then rkP k (inn m) (imgP (nN m) (stayN m) P)
  else if m.t=6 then rkP k (inn m) (orP (memP (row m 0)) (imgP (nN m) (stayN m) P)) - rkP k (inn m) (memP (row m 0))
  else if m.t=7 then min m.a.toNat (rkP k (inn m) P)
  else if m.t=8 then cnt P (nN m)+rkP k (inn m) (notP P) - rkP k (inn m) allP
  else sumR (rkP k) m.i P
section
variable {k:Nat} {m:Mat} {P:Nat→Bool}
theorem rkP_0 (h:m.t=0):rkP (k+1) m P=min m.a.toNat (cnt P (nN m)):=by rw [rkP,if_pos h]
theorem rkP_1 (h:m.t=1):rkP (k+1) m P=N7_ m.a.toNat (nN m) (edgOf m) P:=by rw [rkP,if_neg x37_,if_pos h]
theorem rkP_2 (h:m.t=2):rkP (k+1) m P=partR m.a.toNat (nN m) (clsOf m) (Ya0 m) P:=by rw [rkP,if_neg x37_,if_neg x37_,if_pos h]
theorem rkP_3 (h:m.t=3):rkP (k+1) m P=covR (nN m) m.a.toNat (Yr8 m) P:=by rw [rkP,if_neg x37_,if_neg x37_,if_neg x37_,if_pos h]
theorem rkP_4 (h:m.t=4):rkP (k+1) m P=linR m.b m.a.toNat (nN m) (colOf m) P:=by rw [rkP,if_neg x37_,if_neg x37_,if_neg x37_,if_neg x37_,if_pos h]
theorem rkP_5 (h:m.t=5):rkP (k+1) m P=rkP k (inn m) (imgP (nN m) (stayN m) P):=by rw [rkP,if_neg x37_,if_neg x37_,if_neg x37_,if_neg x37_,if_neg x37_,if_pos h]
theorem rkP_6 (h:m.t=6):rkP (k+1) m P=rkP k (inn m) (orP (memP (row m 0)) (imgP (nN m) (stayN m) P)) - rkP k (inn m) (memP (row m 0)):=by rw [rkP,if_neg x37_,if_neg x37_,if_neg x37_,if_neg x37_,if_neg x37_,if_neg x37_,if_pos h]
theorem rkP_7 (h:m.t=7):rkP (k+1) m P=min m.a.toNat (rkP k (inn m) P):=by rw [rkP,if_neg x37_,if_neg x37_,if_neg x37_,if_neg x37_,if_neg x37_,if_neg x37_,if_neg x37_,if_pos h]
theorem rkP_8 (h:m.t=8):rkP (k+1) m P=cnt P (nN m)+rkP k (inn m) (notP P) - rkP k (inn m) allP:=by rw [rkP,if_neg x37_,if_neg x37_,if_neg x37_,if_neg x37_,if_neg x37_,if_neg x37_,if_neg x37_,if_neg x37_,if_pos h]
theorem rkP_9 (h:9≤m.t):rkP (k+1) m P=sumR (rkP k) m.i P:=by rw [rkP,if_neg x37_,if_neg x37_,if_neg x37_,if_neg x37_,if_neg x37_,if_neg x37_,if_neg x37_,if_neg x37_,if_neg x37_]
end
theorem Zt4 {m:Mat} (h:chk m=0):0≤m.t∧m.t<10:=(V2_ (X0_ h)).1
theorem chk_a {m:Mat} (h:chk m=0):0≤m.a∧m.a≤64:=by have:=(V2_ (X0_ h)).2.1;omega
theorem Y0_ {m:Mat} (h:chk m=0):(nN m:Int)=m.n∧nN m≤64:=by have:=chk_n h;unfold nN;omega
theorem Y9_ {α:Type} {l:List α} {i:Nat} (d:α) (h:i<l.length):l.getD i d∈l:=x28_
theorem Yi4 {l:List Int} {c below:Int} (h:numsB l c below=true):(l.length:Int)=c∧∀ i,i<l.length→0≤l.getD i 0∧l.getD i 0<below:=by
 unfold numsB at h;rw [Bool.and_eq_true,decide_eq_true_iff,Bool.not_eq_true',List.any_eq_false] at h;refine ⟨h.1,fun i hi=>?_⟩;have:=h.2 _ (Y9_ 0 hi);unfold outB at this;rw [decide_eq_true_iff] at this;omega
theorem P5_ {m:Mat} (h:chk m=0) (d:m.t=1):1≤m.a∧(m.l.length:Int)=m.n∧∀ i,i<m.l.length→((m.l.getD i []).length:Int)=2∧∀ j,j<(m.l.getD i []).length→0≤(m.l.getD i []).getD j 0∧(m.l.getD i []).getD j 0<m.a:=by
 obtain ⟨_,_,h3,c⟩:=V2_ (X0_ h);have hl:=(takes_iff.1 h3).2.2.1;rw [d] at hl;have f:(m.l.length:Int)=m.n:=hl;have e:fitsB m=(decide (1≤m.a) && !m.l.any (edgeB m.a)):=by
  unfold fitsB;rw [if_neg x37_,if_pos d]
 rw [e,Bool.and_eq_true,decide_eq_true_iff,Bool.not_eq_true',List.any_eq_false] at c;refine ⟨c.1,f,fun i hi=>?_⟩;have:=c.2 _ (Y9_ [] hi);unfold edgeB at this;have g:numsB (m.l.getD i []) 2 m.a=true:=by
  cases hb:numsB (m.l.getD i []) 2 m.a
  ·rw [hb] at this;exact absurd rfl this
  ·rfl
 exact Yi4 g
theorem Zq9 {m:Mat} (h:chk m=0) (d:m.t=2):m.l.length=2∧((row m 0).length:Int)=m.n∧((row m 1).length:Int)=m.a∧(∀ i,i<(row m 0).length→0≤(row m 0).getD i 0∧(row m 0).getD i 0<m.a)∧∀ i,i<(row m 1).length→0≤(row m 1).getD i 0∧(row m 1).getD i 0<65:=by
 obtain ⟨_,_,h3,c⟩:=V2_ (X0_ h);have hl:=(takes_iff.1 h3).2.2.1;rw [d] at hl;have f:(m.l.length:Int)=2:=hl;have e:fitsB m=(numsB (row m 0) m.n m.a && numsB (row m 1) m.a 65):=by
  unfold fitsB;rw [if_neg x37_,if_neg x37_,if_pos d]
 rw [e,Bool.and_eq_true] at c;have a:=Yi4 c.1;have b:=Yi4 c.2;exact ⟨x37_,a.1,b.1,a.2,b.2⟩
theorem Zg2 {m:Mat} (h:chk m=0) (d:m.t=3):(m.l.length:Int)=m.n∧mayM m.a m.l=true:=by
 obtain ⟨_,_,h3,c⟩:=V2_ (X0_ h);have hl:=(takes_iff.1 h3).2.2.1;rw [d] at hl;have e:fitsB m=mayM m.a m.l:=by
  unfold fitsB;rw [if_neg x37_,if_neg x37_,if_neg x37_,if_pos d]
 rw [e] at c;exact ⟨hl,c⟩
theorem Yi5 {m:Mat} (h:chk m=0) (d:m.t=4):(m.l.length:Int)=m.n∧elimB m.b m.a m.l=true:=by
 obtain ⟨_,_,h3,c⟩:=V2_ (X0_ h);have hl:=(takes_iff.1 h3).2.2.1;rw [d] at hl;have e:fitsB m=elimB m.b m.a m.l:=by
  unfold fitsB;rw [if_neg x37_,if_neg x37_,if_neg x37_,if_neg x37_,if_pos d]
 rw [e] at c;exact ⟨hl,c⟩
theorem Q4_ {m:Mat} (h:chk m=0) (k:5≤m.t∧m.t≤8):m.i=[inn m]∧chk (inn m)=0∧dp 4 (inn m)<dp 4 m:=by
 have h3:=(takes_iff.1 (V2_ (X0_ h)).2.2.1).2.2.2;have d:m.i.length=1:=by
  rcases (by omega:m.t=5∨m.t=6∨m.t=7∨m.t=8) with e | e | e | e
  all_goals
   rw [e] at h3;have g:(1:Int)≤(m.i.length:Int):=h3.1;have j:(m.i.length:Int)≤1:=h3.2;omega
 have c:=Xc8 (m:=m) x37_;obtain ⟨x,f⟩:=List.length_eq_one_iff.1 d;refine ⟨?_,(within h c).1,(within h c).2⟩;rw [f] at c ⊢;rw [List.mem_singleton.1 c]
theorem I6_ {m:Mat} (h:chk m=0) (f:m.t=7∨m.t=8):m.n=(inn m).n:=by
 obtain ⟨d,e,_⟩:=Q4_ h x37_;have c:=(V2_ (X0_ h)).2.2.2;rw [Zz5 x37_,decide_eq_true_iff,d,Vk5 _ e] at c;exact c
theorem Zg3 {m:Mat} (h:chk m=0) (k:m.t=5∨m.t=6):InN (nN (inn m)) (row m 0):=by
 obtain ⟨_,g,_⟩:=Q4_ h x37_;have f:=chk_n g;have c:=(V2_ (X0_ h)).2.2.2;have j:partB m=true:=by
  rcases k with e | e
  ·have d:fitsB m=(partB m && decide (m.n=(row m 0).length)):=y19_
   rw [d,Bool.and_eq_true] at c;exact c.1
  ·have d:fitsB m=(partB m && decide (IntKind.i64.wrap (m.n+(row m 0).length)=(inn m).n)):=q17_
   rw [d,Bool.and_eq_true] at c;exact c.1
 exact (P3_ f.1 f.2).1 j
theorem Za0 {m:Mat} (h:chk m=0) (e:m.t=5∨m.t=6):InN (nN (inn m)) (stayL m)∧(stayL m).length=nN m:=by
 obtain ⟨_,f,_⟩:=Q4_ h x37_;have c:=chk_n f;have d:=Zg3 h e;refine ⟨?_,by have:=U1_ h e;have:=Y0_ h;omega⟩;unfold stayL;split
 ·exact D3_ c.1 c.2 d.1
 ·exact d
theorem N0_ {m:Mat} (h:chk m=0) (d:m.t=5∨m.t=6) {i:Nat} (hi:i<nN m):((stayN m i:Nat):Int)=(stayL m).getD i 0∧stayN m i<nN (inn m):=by
 obtain ⟨c,e⟩:=Za0 h d;have:=c.2 _ (Y9_ 0 (show i<(stayL m).length by omega));unfold stayN;omega
theorem Ya1 {m:Mat} (h:chk m=0) (d:m.t=5∨m.t=6) {i j:Nat} (hi:i<nN m) (k:j<nN m) (e:stayN m i=stayN m j):i=j:=by
 obtain ⟨g,q⟩:=Za0 h d;have a:=(N0_ h d hi).1;have b:=(N0_ h d k).1;have f:=List.pairwise_iff_getElem.1 g.1.1;have o:(stayL m).getD i 0=(stayL m)[i]'x37_:=by simp [List.getD,show i<(stayL m).length by omega]
 have p:(stayL m).getD j 0=(stayL m)[j]'x37_:=by simp [List.getD,show j<(stayL m).length by omega]
 rcases Nat.lt_trichotomy i j with c | c | c
 ·have:=f i j x37_ x37_ c;omega
 ·exact c
 ·have:=f j i x37_ x37_ c;omega
theorem Ya2 {m:Mat} (h:chk m=0) (c:m.t=6) {i:Nat} (hi:i<nN m):memP (row m 0) (stayN m i)=false:=by
 obtain ⟨f,g⟩:=Za0 h (.inr c);have e:=Zg3 h (.inr c);have a:=N0_ h (.inr c) hi;have d:=Y9_ 0 (show i<(stayL m).length by omega);rw [← a.1] at d;rw [show stayL m=Z5_ (allL (inn m).n) (row m 0) from if_pos c] at d;rw [← Bool.not_eq_true,memP_iff];exact ((Y4_ (F7_ _) e.1 _).1 d).2
theorem Zz0 {m:Mat} {s:List Int} (h:chk m=0) (c:m.t=5∨m.t=6) (hs:InN (nN m) s):memP (imgM m s)=imgP (nN m) (stayN m) (memP s):=by
 funext y
 rw [Bool.eq_iff_iff,memP_iff,imgP_iff];unfold imgM;rw [List.mem_map];constructor
 ·rintro ⟨x,d,e⟩
  have:=hs.2 x d;refine ⟨x.toNat,x37_,memP_iff.2 (by rw [show ((x.toNat:Nat):Int)=x by omega];exact d),?_⟩;have:=(N0_ h c (i:=x.toNat) x37_).1;omega
 ·rintro ⟨i,hi,f,rfl⟩
  refine ⟨i,memP_iff.1 f,?_⟩;rw [show ((i:Nat):Int).toNat=i from rfl,(N0_ h c hi).1]
theorem Zg4 {m:Mat} {s:List Int} (h:chk m=0) (e:m.t=5∨m.t=6) (hs:InN (nN m) s):InN (nN (inn m)) (imgM m s):=by
 obtain ⟨d,g⟩:=Za0 h e;have hb:∀ x∈imgM m s,0≤x∧x<(nN (inn m):Int):=fun x c=>by
  obtain ⟨z,f,rfl⟩:=List.mem_map.1 c;have:=hs.2 z f;exact d.2 _ (Y9_ 0 x37_)
 refine ⟨⟨?_,fun x c=>?_⟩,hb⟩
 ·unfold imgM
  rw [List.pairwise_map];refine hs.1.1.imp_of_mem fun {a b} ha hb hab=>?_;have ha:=hs.2 a ha;have hb:=hs.2 b hb;have:=List.pairwise_iff_getElem.1 d.1.1 a.toNat b.toNat x37_ x37_ x37_;rw [show (stayL m).getD a.toNat 0=(stayL m)[a.toNat]'x37_ by simp [List.getD,show a.toNat<(stayL m).length by omega],show (stayL m).getD b.toNat 0=(stayL m)[b.toNat]'x37_ by simp [List.getD,show b.toNat<(stayL m).length by omega]];exact this
 ·have:=hb x c
  obtain ⟨_,h3,_⟩:=Q4_ h x37_;have:=Y0_ h3;exact ⟨(hb x c).1,by unfold nN at *;omega⟩
theorem Xr2 {f:Mat→(Nat→Bool)→Nat}:∀ {l:List Mat},(∀ x∈l,Rk (nN x) (f x))→Rk ((l.map nN).sum) (sumR f l)
 | [],_=>⟨fun _=>rfl,rfl,fun h=>absurd h j37_,fun h=>absurd h j37_,fun h=>absurd h j37_⟩
 | x :: r,h=>by
  rw [List.map_cons,List.sum_cons];exact Vt8 (h x j37_) (Xr2 fun y hy=>h y q41_)
theorem Vs6 {l:List Mat} (h:∀ x∈l,0≤x.n∧x.n≤64) (hl:l.length≤10):(((l.map nN).sum:Nat):Int)=tog l:=by
 have e:∀ (j:Nat),j≤l.length→((((l.take j).map nN).sum:Nat):Int)=tog (l.take j):=by
  intro j
  induction j with
  | zero=>intro _;simp [tog]
  | succ j c =>
   intro f;have c:=c x37_;have hb:=Ve2 (l:=l.take j) (fun x d=>h x (List.mem_of_mem_take d)) k39_;rw [List.length_take] at hb;have d:=h _ (List.getElem_mem (show j<l.length by omega));rw [List.take_succ_eq_append_getElem x37_,Xu4,G6_ x37_ x37_,← c,List.map_append,List.sum_append];simp only [List.map_cons,List.map_nil,List.sum_cons,List.sum_nil];unfold nN;omega
 have:=e l.length (le_refl _)
 rwa [List.take_length] at this
theorem Zt5 {m:Mat} (h:chk m=0) (d:m.t=9):(m.i.map nN).sum=nN m∧m.i.length≤8:=by
 have h3:=(takes_iff.1 (V2_ (X0_ h)).2.2.1).2.2.2;rw [d] at h3;have f:(m.i.length:Int)≤8:=h3.2;have c:=(V2_ (X0_ h)).2.2.2;rw [Zz5 x37_,decide_eq_true_iff] at c;have:=Vs6 (l:=m.i) (fun x e=>chk_n (within h e).1) x37_;have:=Y0_ h;omega
theorem rk_ok:∀ (k:Nat) (m:Mat),chk m=0→dp 4 m≤k→Rk (nN m) (rkP k m)
 | 0,m,_,hd=>absurd hd (by have:=Zb7 4 m;omega)
 | k+1,m,h,hd=>by
  have s:=Zt4 h;have d:∀ {n:Nat} {f g:(Nat→Bool)→Nat},(∀ P,f P=g P)→Rk n g→Rk n f:=fun {n f g} e h=>by rw [show f=g from funext e];exact h
  rcases (by omega:m.t=0∨m.t=1∨m.t=2∨m.t=3∨m.t=4∨m.t=5∨m.t=6∨m.t=7∨m.t=8∨m.t=9) with c | c | c | c | c | c | c | c | c | c
  ·exact d (fun P=>rkP_0 c) (Yl2 (H3_ _) _)
  ·refine d (fun P=>rkP_1 c) (Xs9 fun i hi=>?_)
   obtain ⟨_,r,h2⟩:=P5_ h c;have:=Y0_ h;exact z9_
  ·refine d (fun P=>rkP_2 c) (Yc4 fun i hi=>?_)
   obtain ⟨_,r,_,h3,_⟩:=Zq9 h c;have:=Y0_ h;have:=h3 i x37_;unfold clsOf;omega
  ·exact d (fun P=>rkP_3 c) (Zw2 _ _ _)
  ·have:=(Yi5 h c).2
   unfold elimB at this;simp only [Bool.and_eq_true] at this;exact d (fun P=>rkP_4 c) (Vt9 (L.fld_ok this.1.1.1) _)
  ·obtain ⟨_,h2,h3⟩:=Q4_ h x37_
   have o:=rk_ok k (inn m) h2 x37_;refine d (fun P=>?_) (Vd8 o (k:=nN m) (fun i j hi p e=>Ya1 h (.inl c) hi p e) (fun i hi=>(N0_ h (.inl c) hi).2) noneP (fun _ _=>rfl));rw [rkP_5 c,o.zero,Nat.sub_zero,show orP noneP (imgP (nN m) (stayN m) P)=imgP (nN m) (stayN m) P from by funext i;simp [orP,noneP]]
  ·obtain ⟨_,h2,h3⟩:=Q4_ h x37_
   have o:=rk_ok k (inn m) h2 x37_;exact d (fun P=>rkP_6 c) (Vd8 o (k:=nN m) (fun i j hi p e=>Ya1 h (.inr c) hi p e) (fun i hi=>(N0_ h (.inr c) hi).2) (memP (row m 0)) (fun i hi=>Ya2 h c hi))
  ·obtain ⟨_,h2,h3⟩:=Q4_ h x37_
   have o:=rk_ok k (inn m) h2 x37_;have e:nN m=nN (inn m):=by unfold nN;rw [I6_ h (.inl c)]
   rw [e];exact d (fun P=>rkP_7 c) (Yl2 o _)
  ·obtain ⟨_,h2,h3⟩:=Q4_ h x37_
   have o:=rk_ok k (inn m) h2 x37_;have e:nN m=nN (inn m):=by unfold nN;rw [I6_ h (.inr c)]
   rw [e];exact d (fun P=>by rw [rkP_8 c,e]) (Vh9 o)
  ·have o:∀ x∈m.i,Rk (nN x) (rkP k x):=fun x q=>rk_ok k x (within h q).1 (by have:=(within h q).2;omega)
   rw [← (Zt5 h c).1];exact d (fun P=>rkP_9 x37_) (Xr2 o)
theorem Vd1 {k:Nat} {L:List Int} (f:k≤64) (h:InN k L):InN (k+1) (L ++ [(k:Int)]):=by
 refine ⟨⟨List.pairwise_append.2 ⟨h.1.1,j37_,fun x d y e=>?_⟩,fun x d=>?_⟩,fun x d=>?_⟩
 ·rw [List.mem_singleton.1 e]
  exact (h.2 x d).2
 ·rcases List.mem_append.1 d with c | c
  ·exact h.1.2 x c
  ·rw [List.mem_singleton.1 c];exact ⟨x37_,x37_⟩
 ·rcases List.mem_append.1 d with c | c
  ·have:=h.2 x c;omega
  ·rw [List.mem_singleton.1 c];omega
theorem Vd2 {k n:Nat} {L:List Int} (d:k≤n) (h:InN k L):InN n L:=⟨h.1,fun x c=>by have:=h.2 x c;omega⟩
def Xr3 (n:Nat) (w:World) (e:Ending) (w':World):Prop:=∃ (L:List Int) (v:Value),InN n L∧L.length≤n∧e=.returned v∧Row w' w'.heap.size v L∧Below w.heap.size w w'
theorem Xq8 (n B:Nat) (w:World) (E:n≤64):Calls Tryz.prog 11 #[.int .i64 (n:Int),.int .i64 (B:Int)] w (Xr3 n w):=by
 go_enter Tryz.func11,Tryz.ntmps11
 have s:(w.alloc (.cells #[] 3)).ownsRow w.heap.size 3 1 (.slice (some ⟨w.heap.size,0,none⟩) 0 0) 0 [] :=
  World.ownsRow_made w #[] 0 (le_refl _) z38_ rfl
 have j:Below w.heap.size w (w.alloc (.cells #[] 3)):=(Below.refl _ w).alloc (le_refl _) _;go_wp2
 go_loopw [5,6] (fun u e wr=>∃ (k:Nat) (L:List Int),e=.int .i64 k∧k≤n∧InN k L∧L.length≤k∧wr.ownsRow w.heap.size 3 1 u L.length (ints L)∧Below w.heap.size w wr) (fun _ e _=>n - (intOf e).toNat)
 case atStart=>exact ⟨0,[],rfl,Nat.zero_le _,Xr1 0,le_refl _,s,j⟩
 case round =>
  obtain ⟨k,L,rfl,x,g,q,c,hbr⟩:=hrel;have d:=hid g;clear g;by_cases D:k<n
  ·have C:(k:Int)<(n:Int):=by omega
   have y:(0:Int)≤(k:Int):=x37_;have z:(k:Int)<64:=x37_;rcases hq:(bits BinOp.and IntKind.i64 ((B:Int) / 2 ^ k) 1==1) with _ | _
   ·go_wp2
    go_roundw
    case rel=>exact ⟨k+1,L,y38_,x37_,Vd2 (Nat.le_succ k) d.out,x37_,c,hbr⟩
    exact mz_
   ·go_wp2_with (at_builtin;refine Z4_ rfl _ _ rfl w.heap.size _ _ _ L [(k:Int)] rfl rfl (c.alloc _) (Row.lit1 _ (k:Int)) x37_ j37_ z39_ ?_)
    intro F v r o;have m:Below w.heap.size wr v:=((Below.refl _ wr).alloc hbr.size _).grown o z39_ (fun i hi=>(c.lt i hi).1);go_wp2
    go_roundw
    case rel=>exact ⟨k+1,L ++ [(k:Int)],y38_,x37_,Vd1 x37_ d.out,by rw [List.length_append];simp;omega,by rw [List.length_append];exact r,hbr.trans m⟩
    exact mz_
  ·have p:k=n:=by omega
   subst p;have h:=hid (Row.of_own c rfl);go_wp2;go_ret;exact ⟨L,_,d.out,q,rfl,h.out,hbr⟩
end Go.Proofs.YtnaebbjodfnooaaGreatDoor.Wp
