/- UnionMore, walked: it answers true (written by gen_umore.py). -/
import Derived.Test.YtheeajnkiniopaaGreatDoorUFx16
import Derived.Test.YtheeajnkiniopaaGreatDoorURFew
import Derived.Test.YtheeajnkiniopaaGreatDoorUAll
import Derived.Test.YtheeajnkiniopaaGreatDoorUApp
import Derived.Test.YtheeajnkiniopaaGreatDoorX0A
import Derived.Test.YtheeajnkiniopaaGreatDoorX0B
set_option maxHeartbeats 16000000
set_option maxRecDepth 100000
open Go.Lib (hid)
open Nat (le_refl)
namespace Go.Proofs.YtheeajnkiniopaaGreatDoor.Wp
open Go Go.RowKit
theorem P5_ {ms:List Mat} {c most:Int} (h:few16 ms c most=true):(ms.length:Int)≤c∧∀ m∈ms,Sml m:=x20_
theorem Xp3 {ms:List Mat} (h:sevB ms=true):sevB [ms.getD 0 default]=true:=by
 obtain ⟨d,_⟩:=sev_iff.1 h;refine sev_iff.2 ⟨⟨⟨j37_,j37_⟩,fun k c=>?_⟩,fun k c=>?_⟩
 ·obtain rfl:k=0:=by simp at c;omega
  exact ⟨(d.may 0 d.many.1).1,rfl⟩
 ·obtain rfl:k=0:=by simp at c;omega
  rfl
theorem Zs4 {ms:List Mat} {m:Mat} (h:sevB ms=true) (r:ms.length≤7) (hc:chk m=0) (o:m.n=(ms.getD 0 default).n):sevB (ms ++ [m])=true∧nN ((ms ++ [m]).getD 0 default)=nN (ms.getD 0 default):=by
 obtain ⟨g,p⟩:=sev_iff.1 h;have q:=g.many.1;have d:∀ k,k<ms.length→(ms ++ [m]).getD k default=ms.getD k default:=fun k f=>by simp only [List.getD_eq_getElem?_getD];rw [List.getElem?_append_left f]
 have hl:(ms ++ [m]).length=ms.length+1:=j37_;have j:(ms ++ [m]).getD ms.length default=m:=j37_;have c:(ms ++ [m]).getD 0 default=ms.getD 0 default:=d 0 q;refine ⟨sev_iff.2 ⟨⟨⟨x37_,x37_⟩,fun k f=>?_⟩,fun k f=>?_⟩,by rw [c]⟩
 ·rw [c]
  by_cases e:k=ms.length
  ·subst e
   rw [j];exact ⟨hc,by unfold nN;rw [o]⟩
  ·rw [d k x37_]
   exact g.may k x37_
 ·rw [c]
  by_cases e:k=ms.length
  ·subst e
   rw [j];exact o
  ·rw [d k x37_]
   exact p k x37_
theorem Xj2 {w:World} {B:Nat} {e:Addr} {d:Nat} {ms:List Mat} (h:MatL w B (.slice (some e) ms.length d) ms) (j:0<ms.length):MatL w B (.slice (some e) 1 d) [ms.getD 0 default]:=by
 obtain ⟨A,c,s,f,q⟩:=h;obtain ⟨rfl,rfl⟩:A=some e∧c=d:=by
  injection s with e1 e2 e3;exact ⟨e1.symm,e3.symm⟩
 obtain ⟨g,u,m,o,h3,p⟩:=q 0 j;refine ⟨_,c,rfl,⟨by show 1≤c;omega,f.2.1,f.2.2⟩,fun k r=>?_⟩;obtain rfl:k=0:=by simp at r;omega
 exact ⟨g,u,m,o,h3,p⟩
theorem Xp4 {ms:List Mat} {m:Mat} {n:Nat} {e E f z u F g G:List Int} (h:sevB ms=true) (h3:ms.length≤3) (v:ms.getD 0 default=m) (k:nN (ms.getD 0 default)=n) (ha:MaxU ms (nN m) e E) (hb:MaxU [m] (nN ([m].getD 0 default)) f z) (hc:MaxU (ms ++ [unU n n]) n u F) (hd:MaxU (ms ++ [m]) (nN ((ms ++ [m]).getD 0 default)) g G) :
  e.length=n∧f.length=n∧u.length=n∧g.length=n∧((n:Int)=rankT m (allL (n:Int))+((Z3_ f (-1)).length:Int))∧(Z3_ u (-1)).length=0∧(Z3_ g (-1)).length≤(Z3_ e (-1)).length∧(((Z3_ e (-1)).length:Int)≤((Z3_ g (-1)).length:Int)+rankT m (allL (n:Int)))∧∃ r:Nat,rankT m (allL (n:Int))=(r:Int):=by
 obtain ⟨d,_⟩:=sev_iff.1 h;have j:=(d.may 0 d.many.1).1;have B:=Z7_ j;have A:chk (unU (n:Int) (n:Int))=0:=Zr9 x37_ (Int.le_refl _) x37_;have o:=Zs4 (m:=unU n n) h x37_ A (by show (n:Int)=_;omega);have p:=Zs4 (m:=ms.getD 0 default) h x37_ j rfl;rw [v] at p j k B d;have c:=(sev_iff.1 (Xp3 h)).1;have q:=(sev_iff.1 o.1).1;have s:=(sev_iff.1 p.1).1;rw [v] at c o;rw [o.2,k] at q;rw [p.2,k] at s hd;have hb:MaxU [m] (nN m) f z:=hb;have c:Several [m] (nN m):=c;rw [k] at d ha hb c;have w:m.n=(n:Int):=x37_;have y:=(Zz6 (mayI_iff.2 ⟨j,by have h:=T0_ (n:=m.n) x37_ x37_;rwa [show m.n.toNat=nN m from rfl] at h⟩):rankT m (allL m.n)=_);rw [w] at y;have C:=Vp8 c hb;have D:=Vb1 (m:=unU n n) q (Int.toNat_natCast n) hc;have x:=Vb2 d ha s hd;rw [w] at C x;refine ⟨(R9_ d ha).1,(R9_ c hb).1,(R9_ q hc).1,(R9_ s hd).1,x37_,D,x.1,x37_,_,y⟩
theorem Zg5 {w w':World} {base B:Nat} {v f:Value} {S:Nat→List Value} {ms:List Mat} {m:Mat} {g h j o p q:Value} (_h:w.ownsRow base 37 6 v ms.length (flat6 S ms.length)) (r:w'.ownsRow base 37 6 f (ms.length+1) (flat6 S ms.length ++ [g,h,j,o,p,q])) (e:SixM w' B S ms) (y:MatV w' base (.agg #[g,h,j,o,p,q]) m) (s:B≤base) (hb:base≤w'.heap.size):MatL w' w'.heap.size f (ms ++ [m]):=by
 have u:SixM w' base S ms:=⟨e.1,fun k x=>by
  obtain ⟨z,A,C,D,E,F,c,d⟩:=e.2 k x;exact ⟨z,A,C,D,E,F,c,d.mono s⟩⟩
 obtain ⟨S',c,d⟩:=u.more _ _ _ _ _ _ _ y;refine T8_ (i:=ms ++ [m]) (base:=base) (S:=S') ?_ c hb;rw [List.length_append,show ([m]:List Mat).length=1 from rfl,d];exact r
theorem Xp5 {ms:List Mat} {m:Mat} (h:∀ x∈ms,Sml x) (d:Sml m):∀ x∈ms ++ [m],Sml x:=fun x c=>by
 rcases List.mem_append.1 c with c | c
 ·exact h x c
 ·simp at c
  subst c;exact d
theorem um_1 (E:Nat→Addr) (ms:List Mat) (v:Value) (w:World) (hl:MatL w w.heap.size v ms) (j:ms.length≤140737488355328∧∀ x∈ms,Lim x) (g:Env E w) (h:few16 ms 3 6=false):Calls Tryz.prog 5 #[v] w (Truly w):=by
 have Hf:=hid h;clear h;have d:=hid j;have HL:=hid hl;have HE:=hid g;have Hb0:=hid (Below.refl w.heap.size w);obtain ⟨k,m,rfl,_⟩:=id hl;clear hl g j
 go_enter Tryz.func5,Tryz.ntmps5
 go_wp2_with fail
 refine (Y5_ E _ HE.out).mono ?_;rintro e o ⟨rfl,c⟩;replace HE:=hid (HE.out.up c);replace HL:=hid (HL.out.up c);replace Hb0:=hid (Z0_ Hb0.out (le_refl _) c);clear c
 go_wp2_with fail
 refine (G2_ ms _ 3 6 _ HL.out d.out.2 d.out.1).mono ?_;exact q30_
theorem um_2 (E:Nat→Addr) (ms:List Mat) (v:Value) (w:World) (hl:MatL w w.heap.size v ms) (j:ms.length≤140737488355328∧∀ x∈ms,Lim x) (h:Env E w) (d:few16 ms 3 6=true) (k:sevB ms=false):Calls Tryz.prog 5 #[v] w (Truly w):=by
 have Hf:=hid d;have Hm:=hid k;have Hs:=hid (P5_ d).2;have hK:ms.length≤1000:=by have:=(P5_ d).1;omega
 clear d k;have g:=hid j;have HL:=hid hl;have HE:=hid h;have Hb0:=hid (Below.refl w.heap.size w);obtain ⟨m,o,rfl,_⟩:=id hl;clear hl h j
 go_enter Tryz.func5,Tryz.ntmps5
 go_wp2_with fail
 refine (Y5_ E _ HE.out).mono ?_;rintro e p ⟨rfl,c⟩;replace HE:=hid (HE.out.up c);replace HL:=hid (HL.out.up c);replace Hb0:=hid (Z0_ Hb0.out (le_refl _) c);clear c
 go_wp2_with fail
 refine (G2_ ms _ 3 6 _ HL.out g.out.2 g.out.1).mono ?_;exact x29_
theorem Vs1 (E:Nat→Addr) (ms:List Mat) (v:Value) (w:World) (hl:MatL w w.heap.size v ms) (zt:ms.length≤140737488355328∧∀ x∈ms,Lim x) (hE:Env E w) (hf:few16 ms 3 6=true) (hm:sevB ms=true):Calls Tryz.prog 5 #[v] w (Truly w):=by
 have h3:=(P5_ hf).1;have Hf:=hid hf;have Hm:=hid hm;have Hs:=hid (P5_ hf).2;have hK:ms.length≤1000:=by have:=(P5_ hf).1;omega
 clear hf hm;have HS:=hid (sev_iff.1 Hm.out).1;obtain ⟨x9,vi⟩:=HS.out.many;obtain ⟨ad,d0,lv,iv,uy,y1,y0⟩:=MatL.one hl x9;subst uy;have zl:ms.length≤d0:=by
  obtain ⟨A,c,hv,hn,_⟩:=id hl;injection hv with e1 G e3;omega
 have y3:Sml (ms.getD 0 default):=Hs.out _ (by rw [List.getD_eq_getElem?_getD,List.getElem?_eq_getElem x9];exact List.getElem_mem x9);have xz:=(HS.out.may 0 x9).1;obtain ⟨n,hn⟩:∃ n,nN (ms.getD 0 default)=n:=⟨_,rfl⟩;have Hn:=hid hn;have un:=HS.out.n64;rw [hn] at HS un;have xa:(ms.getD 0 default).n=(n:Int):=by
  have R:=(Z7_ xz).1;rw [← hn];omega
 have u1:Hid (chk (unU (n:Int) (n:Int))=0):=hid (Zr9 x37_ (Int.le_refl _) x37_);have yp:=hid (Xp3 Hm.out);have yq:=hid (Zs4 (m:=unU n n) Hm.out x37_ u1.out xa.symm);have yr:=hid (Zs4 (m:=ms.getD 0 default) Hm.out x37_ xz rfl);have u2:=hid (Xp5 (m:=unU n n) Hs.out (K3_ ..));have yx:=hid (Xp5 Hs.out y3);have ug:=hid xz;have zq:ad.add (0 * 6)=ad:=q40_;rw [zq,xa] at y0;obtain ⟨m,yk⟩:∃ m,ms.getD 0 default=m:=⟨_,rfl⟩;have yc:=hid yk;rw [yk] at y0 y1 xa yp yr yx y3 ug;have v7:=hid xa;have za:=hid y3;have y9:=hid y1;obtain ⟨vl,vk,zz,⟨q,c4,rfl,_⟩,⟨s,c5,rfl,_⟩⟩:=y1.open;obtain ⟨rfl,rfl⟩:lv=.slice q m.l.length c4∧iv=.slice s m.i.length c5:=by
  have R:=Value.agg.inj zz;simp at R;exact R
 rw [xa] at y9;have yb:=hid y0;have v5:=hid zl;have vj:(0:Int)<(ms.length:Int):=x37_;have vh:(1:Int)≤(d0:Int):=x37_;have um:ms.length≤3:=x37_;clear y0 hn zq h3 xz y3 xa yk y1 zz zl;have z7:=hid zt;have y:=hid hl;have B:=hid hE;have C:=hid (Below.refl w.heap.size w);clear hl hE zt
 go_enter Tryz.func5,Tryz.ntmps5
 go_wp2_with fail
 refine (Y5_ E _ B.out).mono ?_;rintro e w1 ⟨rfl,xs⟩;replace B:=hid (B.out.up xs);replace y:=hid (y.out.up xs);replace C:=hid (Z0_ C.out (le_refl _) xs);clear xs
 go_wp2_with fail
 refine (G2_ ms _ 3 6 _ y.out z7.out.2 z7.out.1).mono ?_;rintro e w2 ⟨rfl,xv⟩;rw [Hf.out];replace B:=hid (B.out.up xv);replace y:=hid (y.out.up xv);replace C:=hid (Z0_ C.out (le_refl _) xv);clear xv
 go_wp2_with fail
 refine (K5_ E ms _ _ y.out Hs.out hK).mono ?_;rintro e w3 ⟨rfl,xw⟩;rw [Hm.out];replace B:=hid (B.out.up xw);replace y:=hid (y.out.up xw);replace C:=hid (Z0_ C.out (le_refl _) xw);clear xw;have q1:=(yb.out w3 C.out).2.1
 go_wp2_with fail
 refine (T6_ E ms _ _ y.out Hs.out B.out Hm.out).mono ?_;rintro e w4 ⟨va,vu,ca,ua,rfl,zk,uu,xx,yi⟩;rw [yc.out] at yi;have P:=hid zk;have u3:=hid yi;obtain ⟨Aa,ka,rfl,-⟩:=zk;clear yi uu q1;replace B:=hid (B.out.up xx);replace y:=hid (y.out.up xx);replace C:=hid (Z0_ C.out (le_refl _) xx);clear xx
 go_wp2_with fail
 refine (T6_ E [m] _ _ (by have h:=Xj2 y.out x9;rwa [yc.out] at h) (by intro x hx;simp at hx;subst hx;exact za.out) B.out yp.out).mono ?_;rintro e z ⟨vb,vr,cb,ub,rfl,zm,uv,xg,zu⟩;have x8:=hid zm;have u4:=hid zu;obtain ⟨Ab,kb,rfl,-⟩:=zm;replace P:=hid (P.out.up xg);clear zu uv;replace B:=hid (B.out.up xg);replace y:=hid (y.out.up xg);replace C:=hid (Z0_ C.out (le_refl _) xg);clear xg;obtain ⟨S,hS,ul,uo,zp,zw⟩:=Xj0 y.out;have z3:=hid hS;have Hcells:=hid zp;have xp:=hid zw;have xo:Hid ((flat6 S ms.length).length=ms.length * 6):=hid (K8_ hS.1 _);clear hS uo zp zw ul;have yd:Hid ((z.alloc (.cells #[] 37)).ownsRow z.heap.size 37 6 (.slice (some ⟨z.heap.size,0,none⟩) 0 0) 0 []):=hid (World.ownsRow_lit (base:=z.heap.size) (e := 37) (size:=6) z #[] 0 (le_refl _) z38_ rfl);have xb:Hid (Below z.heap.size z (z.alloc (.cells #[] 37))):=hid ((Below.refl _ _).alloc (le_refl _) _);have zd:Hid (ad.block<z.heap.size):=hid (by
  obtain ⟨A,c,hv,_,D⟩:=y.out;injection hv with e1 G e3;obtain ⟨xr,u,R,h2,_⟩:=D 0 x9;rw [← e1] at R;cases R;exact h2)
 have ya:Hid (∀ W,Below z.heap.size z W→∀ xr,some ad=some xr→∀ j u,(flat6 S ms.length)[j]?=some u→W.cell? (xr.add j)=some u):=hid fun W H xr e j u J=>by
  cases e;have hb:(ad.add j).block=ad.block:=by unfold Addr.add;split<;>rfl
  rw [H.cell (by rw [hb];exact zd.out)];exact Hcells.out ad rfl j u J
 go_wp2_with (at_builtin;refine C5_ rfl _ _ rfl z.heap.size 0 ms.length _ [] (flat6 S ms.length) (some ad) d0 rfl rfl yd.out xo.out (ya.out _ xb.out) xp.out (fun e=>by cases e) x37_ x37_ xb.out.size ?_)
 intro v6 K y2 zr;have y2:K.ownsRow z.heap.size 37 6 v6 ms.length (flat6 S ms.length):=by simpa using y2
 have y4:=hid (xb.out.grown zr xb.out.size (fun k D=>(yd.out.lt k D).1));have z9:=hid y2;clear y2 zr xb yd;obtain ⟨W1,xd⟩:∃ W1,W1=K.alloc (.cells #[.int .i64 0,.int .i64 n,.int .i64 n,.int .i64 0,.slice none 0 0,.slice none 0 0] 37):=⟨_,rfl⟩;have z4:=hid xd;have zi:Below K.heap.size K W1:=by rw [xd];exact (Below.refl _ K).alloc (le_refl _) _
 have ye:=hid (I6_ z9.out zi);have y5:Hid (Below z.heap.size z W1):=hid (by rw [xd];exact y4.out.alloc y4.out.size _);have zj:Blk W1 K.heap.size 37 #[.int .i64 0,.int .i64 n,.int .i64 n,.int .i64 0,.slice none 0 0,.slice none 0 0]:=by rw [xd];exact Blk.new K _ _
 have z5:Hid (∀ ad,some (⟨K.heap.size,0,none⟩:Addr)=some ad→∀ j u,([.int .i64 0,.int .i64 n,.int .i64 n,.int .i64 0,.slice none 0 0,.slice none 0 0]:List Value)[j]?=some u→W1.cell? (ad.add j)=some u):=hid fun ad e j u J=>by
  obtain rfl:=Option.some.inj e;have G:(⟨K.heap.size,0,none⟩:Addr).add j=⟨K.heap.size,j,none⟩:=q43_;rw [G,zj.cell j];simpa using J
 have z8:Hid (∀ u∈([.int .i64 0,.int .i64 n,.int .i64 n,.int .i64 0,.slice none 0 0,.slice none 0 0]:List Value),u.oneCell'=true):=hid fun u hu=>k10_;have y7:=hid (show z.heap.size≤W1.heap.size from y5.out.size);clear xd zi zj
 go_wp2_with (at_builtin;rw [← z4.out];refine C5_ rfl _ _ rfl z.heap.size ms.length 1 _ (flat6 S ms.length) [.int .i64 0,.int .i64 n,.int .i64 n,.int .i64 0,.slice none 0 0,.slice none 0 0] (some ⟨K.heap.size,0,none⟩) 1 rfl rfl ye.out rfl z5.out z8.out (fun e=>by cases e) x37_ x37_ y7.out ?_)
 intro v8 w8 zx zs;have Z:=hid (y5.out.grown zs y7.out (fun k D=>(ye.out.lt k D).1));have yy:Hid (MatL w8 w8.heap.size v8 (ms ++ [unU n n])):=hid (by
  obtain ⟨S',R,h2⟩:=(z3.out.below Z.out).more _ _ _ _ _ _ _ (O6_ w8 z.heap.size 0 n n 0);have h3:=T8_ (i:=ms ++ [.mk 0 n n 0 [] []]) (base:=z.heap.size) (v:=v8) (S:=S') (w:=w8) (by
   rw [List.length_append,show ([Mat.mk 0 n n 0 [] []]:List Mat).length=1 from rfl,h2];exact zx) R Z.out.size
  exact h3)
 clear zx zs z9 ye y4 y5 z5 z8 z4 y7;replace P:=hid (P.out.up Z.out);replace x8:=hid (x8.out.up Z.out);have xy:=Z.out;replace B:=hid (B.out.up xy);replace y:=hid (y.out.up xy);replace C:=hid (Z0_ C.out (le_refl _) xy);clear xy
 go_wp2_with fail
 refine (T6_ E (ms ++ [unU n n]) _ _ yy.out u2.out B.out yq.out.1).mono ?_;rintro e d ⟨vc,vs,cc,uc,rfl,zn,uw,x4,yj⟩;rw [yq.out.2,Hn.out] at yj;have yt:=hid zn;have u5:=hid yj;obtain ⟨Ac,kc,rfl,-⟩:=zn;have y6:=hid (Z0_ Z.out (le_refl _) x4);replace P:=hid (P.out.up x4);replace x8:=hid (x8.out.up x4);clear yj uw yy Z;replace B:=hid (B.out.up x4);replace y:=hid (y.out.up x4);replace C:=hid (Z0_ C.out (le_refl _) x4);clear x4;have x0:Hid (∀ W,Below d.heap.size d.drew W→(W.cell? ad=some (.int .i64 m.t)∧W.cell? ⟨ad.block,ad.off+1,none⟩=some (.int .i64 n)∧W.cell? ⟨ad.block,ad.off+2,none⟩=some (.int .i64 m.a)∧W.cell? ⟨ad.block,ad.off+3,none⟩=some (.int .i64 m.b)∧W.cell? ⟨ad.block,ad.off+4,none⟩=some (.slice q m.l.length c4)∧W.cell? ⟨ad.block,ad.off+5,none⟩=some (.slice s m.i.length c5))):=hid fun W H=>yb.out W (Z0_ C.out (le_refl _) (Z0_ (Below.refl _ d).drew (le_refl _) H));have xm:Hid (∀ W,Below d.heap.size d.drew W→∀ j u,(flat6 S ms.length)[j]?=some u→W.cell? (ad.add j)=some u):=hid fun W H j u J=>ya.out W (Z0_ y6.out (le_refl _) (Z0_ (Below.refl _ d).drew (le_refl _) H)) ad rfl j u J;have xq:Hid (∀ u∈([.int .i64 m.t,.int .i64 (n:Int),.int .i64 m.a,.int .i64 m.b,.slice q m.l.length c4,.slice s m.i.length c5]:List Value),u.oneCell'=true):=hid fun u hu=>k10_;have p:Hid (Below d.heap.size d.drew d.drew):=hid (Below.refl _ _);have xj:Hid (∀ W,Below d.heap.size d.drew W→MatV W d.heap.size (.agg #[.int .i64 m.t,.int .i64 (n:Int),.int .i64 m.a,.int .i64 m.b,.slice q m.l.length c4,.slice s m.i.length c5]) m):=hid fun W H=>(y9.out.up C.out).bel (Z0_ (Below.refl _ d).drew (le_refl _) H);have xl:Hid (∀ W,Below d.heap.size d.drew W→SixM W z.heap.size S ms):=hid fun W H=>z3.out.below (Z0_ y6.out (le_refl _) (Z0_ (Below.refl _ d).drew (le_refl _) H));have xi:Hid (z.heap.size≤d.heap.size):=hid y6.out.size;have xn:∀ g j:Nat,(⟨g,0,none⟩:Addr).add j=⟨g,j,none⟩:=fun g j=>by unfold Addr.add;split<;>simp_all
 have O:Hid (Below d.heap.size d.drew (d.drew.alloc (.cells #[] 37))):=hid ((Below.refl d.heap.size d.drew).alloc (show d.heap.size≤d.drew.heap.size from le_refl _) _);have x6:Hid (Below d.heap.size d.drew ((d.drew.alloc (.cells #[] 37)).alloc (.cells #[.int .i64 m.t,.int .i64 (n:Int),.int .i64 m.a,.int .i64 m.b,.slice q m.l.length c4,.slice s m.i.length c5] 37))):=hid (O.out.alloc O.out.size _);have BJ:Hid (Below d.heap.size d.drew (d.drew.alloc (.cells #[.int .i64 m.t,.int .i64 (n:Int),.int .i64 m.a,.int .i64 m.b,.slice q m.l.length c4,.slice s m.i.length c5] 37))):=hid ((Below.refl d.heap.size d.drew).alloc (show d.heap.size≤d.drew.heap.size from le_refl _) _);have x7:Hid (Below d.heap.size d.drew ((d.drew.alloc (.cells #[.int .i64 m.t,.int .i64 (n:Int),.int .i64 m.a,.int .i64 m.b,.slice q m.l.length c4,.slice s m.i.length c5] 37)).alloc (.cells #[] 37))):=hid (BJ.out.alloc BJ.out.size _);have OI:Hid ((d.drew.alloc (.cells #[] 37)).ownsRow d.heap.size 37 6 (.slice (some ⟨d.heap.size,0,none⟩) 0 0) 0 []):=hid (World.ownsRow_lit (base:=d.heap.size) (e := 37) (size:=6) d.drew #[] 0 (le_refl _) z38_ rfl);have yf:Hid (((d.drew.alloc (.cells #[] 37)).alloc (.cells #[.int .i64 m.t,.int .i64 (n:Int),.int .i64 m.a,.int .i64 m.b,.slice q m.l.length c4,.slice s m.i.length c5] 37)).ownsRow d.heap.size 37 6 (.slice (some ⟨d.heap.size,0,none⟩) 0 0) 0 []):=hid (OI.out.alloc _);have yg:Hid (((d.drew.alloc (.cells #[.int .i64 m.t,.int .i64 (n:Int),.int .i64 m.a,.int .i64 m.b,.slice q m.l.length c4,.slice s m.i.length c5] 37)).alloc (.cells #[] 37)).ownsRow d.heap.size 37 6 (.slice (some ⟨d.heap.size+1,0,none⟩) 0 0) 0 []):=hid (by
  have h:=World.ownsRow_lit (base:=d.heap.size) (e := 37) (size:=6) (d.drew.alloc (.cells #[.int .i64 m.t,.int .i64 (n:Int),.int .i64 m.a,.int .i64 m.b,.slice q m.l.length c4,.slice s m.i.length c5] 37)) #[] 0 BJ.out.size z38_ rfl
  rwa [show (d.drew.alloc (.cells #[.int .i64 m.t,.int .i64 (n:Int),.int .i64 m.a,.int .i64 m.b,.slice q m.l.length c4,.slice s m.i.length c5] 37)).heap.size=d.heap.size+1 by simp] at h)
 have zb:Hid (Blk ((d.drew.alloc (.cells #[] 37)).alloc (.cells #[.int .i64 m.t,.int .i64 (n:Int),.int .i64 m.a,.int .i64 m.b,.slice q m.l.length c4,.slice s m.i.length c5] 37)) (d.heap.size+1) 37 #[.int .i64 m.t,.int .i64 (n:Int),.int .i64 m.a,.int .i64 m.b,.slice q m.l.length c4,.slice s m.i.length c5]):=hid (by
  have h:=Blk.new (d.drew.alloc (.cells #[] 37)) 37 #[.int .i64 m.t,.int .i64 (n:Int),.int .i64 m.a,.int .i64 m.b,.slice q m.l.length c4,.slice s m.i.length c5]
  rwa [show (d.drew.alloc (.cells #[] 37)).heap.size=d.heap.size+1 by simp] at h)
 have zc:Hid (Blk ((d.drew.alloc (.cells #[.int .i64 m.t,.int .i64 (n:Int),.int .i64 m.a,.int .i64 m.b,.slice q m.l.length c4,.slice s m.i.length c5] 37)).alloc (.cells #[] 37)) d.heap.size 37 #[.int .i64 m.t,.int .i64 (n:Int),.int .i64 m.a,.int .i64 m.b,.slice q m.l.length c4,.slice s m.i.length c5]):=hid ((Blk.new d.drew 37 #[.int .i64 m.t,.int .i64 (n:Int),.int .i64 m.a,.int .i64 m.b,.slice q m.l.length c4,.slice s m.i.length c5]).alloc _);have u6:Hid ((Value.slice (some ⟨d.heap.size,0,none⟩) 0 0).ownBlock≠some (d.heap.size+1)):=hid fun e=>by
  have G:(some d.heap.size:Option Nat)=some (d.heap.size+1):=e;injection G with G;omega
 have u7:Hid ((Value.slice (some ⟨d.heap.size+1,0,none⟩) 0 0).ownBlock≠some d.heap.size):=hid fun e=>by
  have G:(some (d.heap.size+1):Option Nat)=some d.heap.size:=e;injection G with G;omega
 have yw:=hid (y.out.up (Below.refl _ d).drew);have yu:=hid (B.out.up (Below.refl _ d).drew);clear y B ya zd;go_wp2
 go_region_held3 (fun W=>(W.cell? ad=some (.int .i64 m.t)∧W.cell? ⟨ad.block,ad.off+1,none⟩=some (.int .i64 n)∧W.cell? ⟨ad.block,ad.off+2,none⟩=some (.int .i64 m.a)∧W.cell? ⟨ad.block,ad.off+3,none⟩=some (.int .i64 m.b)∧W.cell? ⟨ad.block,ad.off+4,none⟩=some (.slice q m.l.length c4)∧W.cell? ⟨ad.block,ad.off+5,none⟩=some (.slice s m.i.length c5)))
  (first | exact x0.out _ p.out | exact x0.out _ (p.out.alloc p.out.size _) | exact x0.out _ O.out | exact x0.out _ x6.out | exact x0.out _ BJ.out | exact x0.out _ x7.out)
  (first
  | (refine V9_ rfl (.tmp 63) (.tmp 64) rfl d.heap.size 0 ms.length _ [] (flat6 S ms.length) ad d0 rfl rfl OI.out xo.out (xm.out _ O.out) xp.out x37_ x37_ O.out.size ?_;intro X x5 U M;have I:=hid (show x5.ownsRow d.heap.size 37 6 X ms.length (flat6 S ms.length) by simpa using U);replace p:=hid (O.out.grown M O.out.size (fun k D=>(OI.out.lt k D).1));clear U M)
  | (refine V9_ rfl (.tmp 63) (.tmp 64) rfl d.heap.size 0 ms.length _ [] (flat6 S ms.length) ad d0 rfl rfl yf.out xo.out (xm.out _ x6.out) xp.out x37_ x37_ x6.out.size ?_;intro X x5 U M;have I:=hid (show x5.ownsRow d.heap.size 37 6 X ms.length (flat6 S ms.length) by simpa using U);have y8:=hid (zb.out.grown M (Ne.symm u6.out));replace p:=hid (x6.out.grown M x6.out.size (fun k D=>(yf.out.lt k D).1));clear U M)
  | (refine V9_ rfl (.tmp 63) (.tmp 64) rfl d.heap.size 0 ms.length _ [] (flat6 S ms.length) ad d0 rfl rfl yg.out xo.out (xm.out _ x7.out) xp.out x37_ x37_ x7.out.size ?_;intro X x5 U M;have I:=hid (show x5.ownsRow d.heap.size 37 6 X ms.length (flat6 S ms.length) by simpa using U);have y8:=hid (zc.out.grown M (Ne.symm u7.out));replace p:=hid (x7.out.grown M x7.out.size (fun k D=>(yg.out.lt k D).1));clear U M)
  | (refine V9_ rfl (.tmp 65) (.tmp 69) rfl d.heap.size ms.length 1 X (flat6 S ms.length) [.int .i64 m.t,.int .i64 (n:Int),.int .i64 m.a,.int .i64 m.b,.slice q m.l.length c4,.slice s m.i.length c5] ⟨x5.heap.size,0,none⟩ 1 rfl rfl (I.out.alloc _) rfl (fun j u J=>by rw [xn,(Blk.new x5 37 #[.int .i64 m.t,.int .i64 (n:Int),.int .i64 m.a,.int .i64 m.b,.slice q m.l.length c4,.slice s m.i.length c5]).cell j];simpa using J) xq.out x37_ x37_ (Nat.le_trans p.out.size j37_) ?_;intro xh Y V T;replace p:=hid ((p.out.alloc p.out.size _).grown T (Nat.le_trans p.out.size j37_) (fun k D=>(I.out.lt k D).1));have xk:Hid (MatL Y Y.heap.size xh (ms ++ [m])):=hid (Zg5 I.out V (xl.out _ p.out) (xj.out _ p.out) xi.out p.out.size);clear V T)
  | (refine V9_ rfl (.tmp 65) (.tmp 69) rfl d.heap.size ms.length 1 X (flat6 S ms.length) [.int .i64 m.t,.int .i64 (n:Int),.int .i64 m.a,.int .i64 m.b,.slice q m.l.length c4,.slice s m.i.length c5] ⟨d.heap.size+1,0,none⟩ 1 rfl rfl I.out rfl (fun j u J=>by rw [xn,y8.out.cell j];simpa using J) xq.out x37_ x37_ p.out.size ?_;intro xh Y V T;replace p:=hid (p.out.grown T p.out.size (fun k D=>(I.out.lt k D).1));have xk:Hid (MatL Y Y.heap.size xh (ms ++ [m])):=hid (Zg5 I.out V (xl.out _ p.out) (xj.out _ p.out) xi.out p.out.size);clear V T)
  | (refine V9_ rfl (.tmp 65) (.tmp 69) rfl d.heap.size ms.length 1 X (flat6 S ms.length) [.int .i64 m.t,.int .i64 (n:Int),.int .i64 m.a,.int .i64 m.b,.slice q m.l.length c4,.slice s m.i.length c5] ⟨d.heap.size,0,none⟩ 1 rfl rfl I.out rfl (fun j u J=>by rw [xn,y8.out.cell j];simpa using J) xq.out x37_ x37_ p.out.size ?_;intro xh Y V T;replace p:=hid (p.out.grown T p.out.size (fun k D=>(I.out.lt k D).1));have xk:Hid (MatL Y Y.heap.size xh (ms ++ [m])):=hid (Zg5 I.out V (xl.out _ p.out) (xj.out _ p.out) xi.out p.out.size);clear V T)
  | (go_at_call 13;refine (T6_ E (ms ++ [m]) _ _ xk.out yx.out (yu.out.up p.out) yr.out.1).mono ?_;rintro e uz ⟨vd,vt,cd,ud,rfl,zo,ux,ze,zv⟩;replace p:=hid (Z0_ p.out (show d.heap.size≤d.drew.heap.size from le_refl _) ze);have xc:=hid zo;have yz:=hid zv;clear zo ux ze zv))
 all_goals
  have xe:Below d.heap.size d uz:=Z0_ (Below.refl _ d).drew (le_refl _) p.out;have v4:=hid (yw.out.up p.out);have ys:=hid (P.out.up xe);have Q:=hid (x8.out.up xe);have L:=hid (yt.out.up xe);have F:=hid (Z0_ C.out (le_refl _) xe);have z6:=hid (Xp4 Hm.out um yc.out Hn.out u3.out u4.out u5.out yz.out);obtain ⟨Ad,kd,rfl,-⟩:=id xc.out;obtain ⟨e1,G,e3,e4,e5,e6,e7,e8,e9⟩:=z6.out;have u8:Hid (ca.length≤1048576):=hid (by rw [e1];omega);have u9:Hid (cb.length≤1048576):=hid (by rw [G];omega);have ue:Hid (cc.length≤1048576):=hid (by rw [e3];omega);have uf:Hid (cd.length≤1048576):=hid (by rw [e4];omega);obtain ⟨oa,yl⟩:∃ o,(Z3_ ca (-1)).length=o:=⟨_,rfl⟩;obtain ⟨ob,ym⟩:∃ o,(Z3_ cb (-1)).length=o:=⟨_,rfl⟩;obtain ⟨oc,yn⟩:∃ o,(Z3_ cc (-1)).length=o:=⟨_,rfl⟩;obtain ⟨od,yo⟩:∃ o,(Z3_ cd (-1)).length=o:=⟨_,rfl⟩;have qa:=H2_ ca (-1);have qd:=H2_ cd (-1);have qb:=H2_ cb (-1);rw [yl] at qa e7 e8;rw [ym] at qb e5;rw [yn] at e6;rw [yo] at qd e7 e8;obtain ⟨r,hr⟩:=e9;rw [hr] at e5 e8;rw [e1] at ys qa ⊢;rw [G] at Q qb ⊢;rw [e3] at L ⊢;rw [e4] at xc qd ⊢;subst e6;have uh:=hid yl;have ui:=hid ym;have uj:=hid yn;have uk:=hid yo;have Hr:=hid hr;have vz:IntKind.i64.wrap ((n:Int) - (oa:Int))=(n:Int) - (oa:Int):=q38_;have w7:IntKind.i64.wrap ((n:Int) - (od:Int))=(n:Int) - (od:Int):=q38_;have w0:IntKind.i64.wrap ((n:Int) - (ob:Int))=(r:Int):=q38_;have wa:IntKind.i64.wrap ((n:Int) - (oa:Int)+(r:Int))=(n:Int) - (oa:Int)+(r:Int):=q38_;have z1:(n:Int) - (oa:Int)≤(n:Int) - (od:Int):=x37_;have z2:(n:Int) - (od:Int)≤(n:Int) - (oa:Int)+(r:Int):=x37_;clear e1 G e3 e4 e5 e7 e8 yl ym yn yo hr qa qb qd z6 yz xe p yw yu P x8 yt x0 xm xq xj xl xi xn O x6 BJ x7 OI yf yg zb zc xk
  go_wp2_with fail
  refine (B3_ _ ca (-1) _ ys.out u8.out).mono ?_;rintro e vv ⟨vm,rfl,uq,xf⟩;obtain ⟨v0,v9,rfl,-⟩:=uq;rw [uh.out];replace xc:=hid (xc.out.up xf);replace Q:=hid (Q.out.up xf);replace L:=hid (L.out.up xf);replace F:=hid (Z0_ F.out (le_refl _) xf);clear xf
  go_wp2_with fail
  refine (B3_ _ cd (-1) _ xc.out uf.out).mono ?_;rintro e N ⟨vn,rfl,ur,xt⟩;obtain ⟨v1,ve,rfl,-⟩:=ur;rw [uk.out];replace Q:=hid (Q.out.up xt);replace L:=hid (L.out.up xt);replace F:=hid (Z0_ F.out (le_refl _) xt);clear xt;have yv:Hid (∀ W,Below N.drew.heap.size N.drew W→(W.cell? ad=some (.int .i64 m.t)∧W.cell? ⟨ad.block,ad.off+1,none⟩=some (.int .i64 n)∧W.cell? ⟨ad.block,ad.off+2,none⟩=some (.int .i64 m.a)∧W.cell? ⟨ad.block,ad.off+3,none⟩=some (.int .i64 m.b)∧W.cell? ⟨ad.block,ad.off+4,none⟩=some (.slice q m.l.length c4)∧W.cell? ⟨ad.block,ad.off+5,none⟩=some (.slice s m.i.length c5))):=hid fun W H=>yb.out W (Z0_ F.out (le_refl _) (Z0_ (Below.refl _ N).drew (le_refl _) H));have z0:Hid (∀ W (v:Value),Below N.drew.heap.size N.drew W→Row W W.heap.size v (allL (n:Int))→Calls Tryz.prog 23 #[.agg #[.int .i64 m.t,.int .i64 (n:Int),.int .i64 m.a,.int .i64 m.b,.slice q m.l.length c4,.slice s m.i.length c5],v] W (Tells W (r:Int))):=hid fun W v H hv=>by
   have h:=Yj6 m _ v (allL (n:Int)) W (y9.out.up (Z0_ F.out (le_refl _) (Z0_ (Below.refl _ N).drew (le_refl _) H))) za.out hv;rw [Hr.out] at h;exact h
  have p:Hid (Below N.drew.heap.size N.drew N.drew):=hid (Below.refl _ _);go_wp2
  go_region_held3 (fun W=>(W.cell? ad=some (.int .i64 m.t)∧W.cell? ⟨ad.block,ad.off+1,none⟩=some (.int .i64 n)∧W.cell? ⟨ad.block,ad.off+2,none⟩=some (.int .i64 m.a)∧W.cell? ⟨ad.block,ad.off+3,none⟩=some (.int .i64 m.b)∧W.cell? ⟨ad.block,ad.off+4,none⟩=some (.slice q m.l.length c4)∧W.cell? ⟨ad.block,ad.off+5,none⟩=some (.slice s m.i.length c5)))
   (exact yv.out _ p.out)
   (first
   | (go_at_call 24;refine (P9_ (n:Int) _).mono ?_;rintro e vw ⟨vo,rfl,zy,zf⟩;replace p:=hid (Z0_ p.out (le_refl _) zf);have u0:=hid zy;clear zy zf)
   | (go_at_call 23;refine (z0.out _ _ p.out u0.out).mono ?_;rintro e vx ⟨rfl,zg⟩;replace p:=hid (Z0_ p.out (le_refl _) zg);clear zg))
  all_goals
   have xu:=Z0_ (Below.refl _ N).drew (le_refl _) p.out;replace Q:=hid (Q.out.up xu);replace L:=hid (L.out.up xu);replace F:=hid (Z0_ F.out (le_refl _) xu);clear xu p yv z0
   go_wp2_with fail
   refine (B3_ _ cb (-1) _ Q.out u9.out).mono ?_;rintro e vy ⟨vp,rfl,us,yh⟩;obtain ⟨v2,vf,rfl,-⟩:=us;rw [ui.out];replace L:=hid (L.out.up yh);replace F:=hid (Z0_ F.out (le_refl _) yh);clear yh
   go_wp2_with fail
   refine (B3_ _ cc (-1) _ L.out ue.out).mono ?_;rintro e wb ⟨vq,rfl,ut,zh⟩;obtain ⟨v3,vg,rfl,-⟩:=ut;rw [uj.out];replace F:=hid (Z0_ F.out (le_refl _) zh);clear zh;go_wp2;go_ret;exact ⟨rfl,F.out⟩
theorem UnionMore_any (E:Nat→Addr) (ms:List Mat) (v:Value) (w:World) (hl:MatL w w.heap.size v ms) (d:ms.length≤140737488355328∧∀ x∈ms,Lim x) (c:Env E w):Calls Tryz.prog 5 #[v] w (Truly w):=by
 cases hf:few16 ms 3 6 with
 | false=>exact um_1 E ms v w hl d c hf
 | true =>
  cases hm:sevB ms with
  | false=>exact um_2 E ms v w hl d c hf hm
  | true=>exact Vs1 E ms v w hl d c hf hm
open Go Go.RowKit
theorem Zz7 {ms:List Mat} {c most:Int} (h:few16 ms c most=true):(ms.length:Int)≤c∧∀ m∈ms,Sml m:=x20_
theorem ug_1 (E:Nat→Addr) (ms:List Mat) (v:Value) (w:World) (hl:MatL w w.heap.size v ms) (j:ms.length≤140737488355328∧∀ x∈ms,Lim x) (g:Env E w) (h:few16 ms 2 6=false):Calls Tryz.prog 4 #[v] w (Truly w):=by
 have Hf:=hid h;clear h;have d:=hid j;have HL:=hid hl;have HE:=hid g;have Hb0:=hid (Below.refl w.heap.size w);obtain ⟨k,m,rfl,_⟩:=id hl;clear hl g j
 go_enter Tryz.func4,Tryz.ntmps4
 go_wp2_with fail
 refine (Y5_ E _ HE.out).mono ?_;rintro e o ⟨rfl,c⟩;replace HE:=hid (HE.out.up c);replace HL:=hid (HL.out.up c);replace Hb0:=hid (Z0_ Hb0.out (le_refl _) c);clear c
 go_wp2_with fail
 refine (G2_ ms _ 2 6 _ HL.out d.out.2 d.out.1).mono ?_;exact q30_
theorem ug_2 (E:Nat→Addr) (ms:List Mat) (v:Value) (w:World) (hl:MatL w w.heap.size v ms) (j:ms.length≤140737488355328∧∀ x∈ms,Lim x) (h:Env E w) (d:few16 ms 2 6=true) (k:sevB ms=false):Calls Tryz.prog 4 #[v] w (Truly w):=by
 have Hf:=hid d;have Hm:=hid k;have Hs:=hid (Zz7 d).2;have hK:ms.length≤1000:=by have:=(Zz7 d).1;omega
 clear d k;have g:=hid j;have HL:=hid hl;have HE:=hid h;have Hb0:=hid (Below.refl w.heap.size w);obtain ⟨m,o,rfl,_⟩:=id hl;clear hl h j
 go_enter Tryz.func4,Tryz.ntmps4
 go_wp2_with fail
 refine (Y5_ E _ HE.out).mono ?_;rintro e p ⟨rfl,c⟩;replace HE:=hid (HE.out.up c);replace HL:=hid (HL.out.up c);replace Hb0:=hid (Z0_ Hb0.out (le_refl _) c);clear c
 go_wp2_with fail
 refine (G2_ ms _ 2 6 _ HL.out g.out.2 g.out.1).mono ?_;exact x29_
theorem Vs2 (E:Nat→Addr) (ms:List Mat) (v:Value) (w:World) (hl:MatL w w.heap.size v ms) (x8:ms.length≤140737488355328∧∀ x∈ms,Lim x) (Y:Env E w) (K:few16 ms 2 6=true) (hm:sevB ms=true):Calls Tryz.prog 4 #[v] w (Truly w):=by
 have Hf:=hid K;have z:=hid hm;have r:=hid (Zz7 K).2;have hK:ms.length≤1000:=by have:=(Zz7 K).1;omega
 clear K hm;have m:=hid (sev_iff.1 z.out).1;obtain ⟨x9,xi⟩:=m.out.many;obtain ⟨ad,d0,xl,xk,xh,_,x4⟩:=MatL.one hl x9;subst xh;obtain ⟨n,L⟩:∃ n,nN (ms.getD 0 default)=n:=⟨_,rfl⟩;have O:=hid L;have xf:=m.out.n64;rw [L] at m xf;have X:Hid ((ms.getD 0 default).n=(n:Int)):=hid (by
  have h1:=(Z7_ (m.out.may 0 x9).1).1;rw [← L];omega)
 have xj:(0:Int)<(ms.length:Int):=x37_;have x6:ad.add (0 * 6)=ad:=q40_;have xd:Hid (∀ W,Below w.heap.size w W→W.cell? ⟨ad.block,ad.off+1,none⟩=some (.int .i64 n)):=hid fun W P=>by
  have h:=(x4 W P).2.1;rw [x6,X.out] at h;exact h
 clear x4 L x6;have V:=hid x8;have d:=hid hl;have j:=hid Y;have g:=hid (Below.refl w.heap.size w);clear hl Y x8
 go_enter Tryz.func4,Tryz.ntmps4
 go_wp2_with fail
 refine (Y5_ E _ j.out).mono ?_;rintro e w1 ⟨rfl,G⟩;replace j:=hid (j.out.up G);replace d:=hid (d.out.up G);replace g:=hid (Z0_ g.out (le_refl _) G);clear G
 go_wp2_with fail
 refine (G2_ ms _ 2 6 _ d.out V.out.2 V.out.1).mono ?_;rintro e w2 ⟨rfl,H⟩;rw [Hf.out];replace j:=hid (j.out.up H);replace d:=hid (d.out.up H);replace g:=hid (Z0_ g.out (le_refl _) H);clear H
 go_wp2_with fail
 refine (K5_ E ms _ _ d.out r.out hK).mono ?_;rintro e w3 ⟨rfl,I⟩;rw [z.out];replace j:=hid (j.out.up I);replace d:=hid (d.out.up I);replace g:=hid (Z0_ g.out (le_refl _) I);clear I
 go_wp2_with fail
 refine (T6_ E ms _ _ d.out r.out j.out z.out).mono ?_;rintro e w5 ⟨vc,vu,c,u,rfl,hc,hu,J,D⟩;rw [O.out] at D;obtain ⟨x5,xe,x7,_,_⟩:=K6_ m.out D;have y:=hid (Yj9 z.out (by rw [O.out];exact D));have M:=hid (Vb9 m.out D);have F:=hid hc;have p:=hid hu;have xc:=hid x5;have N:=hid x7;have xb:=hid (show c.length≤1048576 by omega);have xa:=H2_ c (-1);obtain ⟨o,R⟩:∃ o,(Z3_ c (-1)).length=o:=⟨_,rfl⟩;rw [R] at xa y M;rw [X.out] at y;have Ho:=hid R;obtain ⟨t,S⟩:∃ t,(n:Int) - (o:Int)=t:=⟨_,rfl⟩;have hw:IntKind.i64.wrap ((n:Int) - (o:Int))=t:=by rw [S,IntKind.wrap_i64];omega
 rw [S] at y M;clear D x5 xe x7 hc hu xa R S;replace j:=hid (j.out.up J);replace d:=hid (d.out.up J);replace g:=hid (Z0_ g.out (le_refl _) J);clear J
 go_wp2_with fail
 refine (Zg4 ms _ _ c _ d.out r.out F.out xc.out).mono ?_;rintro e k ⟨rfl,s⟩;replace F:=hid (F.out.up s);replace p:=hid (p.out.up s);replace j:=hid (j.out.up s);replace d:=hid (d.out.up s);replace g:=hid (Z0_ g.out (le_refl _) s);clear s;have U:Hid (∀ W,Below k.drew.heap.size k.drew W→W.cell? ⟨ad.block,ad.off+1,none⟩=some (.int .i64 n)):=hid fun W P=>xd.out W (Z0_ g.out (le_refl _) (Z0_ (Below.refl _ k).drew (le_refl _) P));have T:Hid (Row k.drew k.drew.heap.size vc c):=hid (F.out.up (Below.refl _ k).drew);have q:Hid (Below k.drew.heap.size k.drew k.drew):=hid (Below.refl _ _);go_wp2
 go_region_held3 (fun W=>W.cell? ⟨ad.block,ad.off+1,none⟩=some (.int .i64 n))
  (exact U.out _ q.out)
  ((go_at_call 19;refine (B3_ _ c (-1) _ (T.out.up q.out) xb.out).mono ?_;rintro e w7 ⟨v7,rfl,xg,x0⟩;replace q:=hid (Z0_ q.out (le_refl _) x0);obtain ⟨A7,c7,rfl,-⟩:=xg;rw [Ho.out];clear x0))
 all_goals
  have B:=Z0_ (Below.refl _ k).drew (le_refl _) q.out;replace d:=hid (d.out.up B);replace j:=hid (j.out.up B);replace p:=hid (p.out.up B);replace g:=hid (Z0_ g.out (le_refl _) B);clear B q U T
  go_wp2_with fail
  refine (Xo8 E ms _ _ u _ d.out r.out p.out z.out (by rw [O.out];exact N.out)).mono ?_;rintro e w9 ⟨rfl,C⟩;rw [y.out];replace d:=hid (d.out.up C);replace j:=hid (j.out.up C);replace p:=hid (p.out.up C);replace g:=hid (Z0_ g.out (le_refl _) C);clear C
  go_wp2_with fail
  refine (G3_ E ms _ _ u _ d.out r.out p.out (by have:=Y4_ N.out;have:=m.out.n64;omega) j.out (Xo7 m.out N.out)).mono ?_;rintro e xm ⟨rfl,Q⟩;rw [y.out];replace d:=hid (d.out.up Q);replace g:=hid (Z0_ g.out (le_refl _) Q);clear Q
  go_wp2_with fail
  refine (Yp6 m.out r.out n [] _ _ _ d.out (Row.nil_ _ _) j37_).mono ?_;rintro e xn ⟨rfl,Z⟩;rw [M.out];replace g:=hid (Z0_ g.out (le_refl _) Z);clear Z;go_wp2;go_ret;exact ⟨rfl,g.out⟩
theorem UnionGreatest_any (E:Nat→Addr) (ms:List Mat) (v:Value) (w:World) (hl:MatL w w.heap.size v ms) (d:ms.length≤140737488355328∧∀ x∈ms,Lim x) (c:Env E w):Calls Tryz.prog 4 #[v] w (Truly w):=by
 cases hf:few16 ms 2 6 with
 | false=>exact ug_1 E ms v w hl d c hf
 | true =>
  cases hm:sevB ms with
  | false=>exact ug_2 E ms v w hl d c hf hm
  | true=>exact Vs2 E ms v w hl d c hf hm
end Go.Proofs.YtheeajnkiniopaaGreatDoor.Wp
