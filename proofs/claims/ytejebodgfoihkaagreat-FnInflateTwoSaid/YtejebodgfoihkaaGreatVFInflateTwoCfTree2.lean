/- The specification's tree of a code: just the lengths of Ct. -/
import Derived.Test.YtejebodgfoihkaaGreatKFInflateTwox0a
import Derived.Test.YtejebodgfoihkaaGreatVFInflateTwoCfTree
import Derived.Test.YtejebodgfoihkaaGreatKFInflateTwox5
namespace Go.Proofs.YtejebodgfoihkaaGreat
open Go.RowKit

structure InvE (zs:List Int) (n:Nat) (ps:List Cf.Nd) (f:Nat→Nat):Prop extends Cf.Inv n ps f where
 ex:Ct.Ex zs ps f
theorem InvE.next {zs:List Int} {n:Nat} {ps:List Cf.Nd} {f:Nat→Nat} (h:InvE zs n ps f) {a b wa wb:Nat} {x y:Cf.Nd} (hx:ps[a]?=some x) (hy:ps[b]?=some y) (hab:a≠b) (h1:Cf.lst (-1) (ps.map (fun p=>p.1)) 0 none=some (a,wa)) (h2:Cf.lst (a:Int) (ps.map (fun p=>p.1)) 0 none=some (b,wb)):InvE zs n (Cf.next ps a b x y) (fun s=>f s+(x.2++y.2).count s):=
 ⟨h.toInv.next hx hy hab,h.ex.next h1 h2 hx hy hab⟩
def TrEndX (w:World) (n:Nat) (zs:List Int) (e:Ending) (w':World):Prop:=
 (e=.returned (.slice (some ⟨w.heap.size,0,none⟩) n n)∧∃f:Nat→Nat,Own w' w.heap.size n (fun i=>(f i:Int))∧Ct.IsLens zs f∧∀i,i<n→f i≤Cf.deep zs)∧Below w.heap.size w w'

set_option linter.unusedSimpArgs false in
set_option maxHeartbeats 8000000 in
set_option maxRecDepth 20000 in
theorem l3Tree_is (a:Option Addr) (cap n:Nat) (zs:List Int) (w:World) (h:Ints w a zs) (hn:zs.length=n) (hb:n≤300) (hz:∀i,i<zs.length→0≤zs.getD i 0∧zs.getD i 0≤9000):
 Calls Tryz.prog 103 #[.slice a n cap] w (TrEndX w n zs):=by
 have HI:Hid (Ints w a zs):=h
 have HN:Hid (zs.length=n):=hn
 have HZ:Hid (∀i,i<zs.length→0≤zs.getD i 0∧zs.getD i 0≤9000):=hz
 have hmk:=make_arr zs n hn (by omega) w
 have HINV:Hid (Cf.Inv n (Cf.init zs n) (fun _=>0)):=by have:=Cf.init_inv hz (by omega);rw[hn] at this;exact this
 have HDEEP:Hid (Cf.deep zs=Nat.max 1 (Cf.fin ((Cf.init zs n).map (fun p:Cf.Nd=>p.1)))):=by show _=_;unfold Cf.deep;rw[hn]
 have HT0:Hid (TrS w n [] (fun _=>0) (.slice (some ⟨w.heap.size+1,0,none⟩) 0 0) ((w.alloc (.cells (arr (Mk.outer zs 0).2) 3)).alloc (.cells #[] 166))):=by
  have hO1:Own (w.alloc (.cells (arr (Mk.outer zs 0).2) 3)) w.heap.size n (fun _=>((0:Nat):Int)):=by
   refine⟨by simp,fun i hi=>⟨?_,by rw[World.frozen?_alloc_at _ _ _ _ rfl]⟩⟩
   rw[World.cell?_alloc_at _ _ _ _ rfl,arr_get _ i (by rw[Mk.outer_len,hn];exact hi)]
   simp[Mk.outer]
  have hn0:=(nodes_none w.heap.size (w.alloc (.cells (arr (Mk.outer zs 0).2) 3)) (by simp)).lower (lo':=w.heap.size+1) (by simp) (by omega)
  rw[World.size_alloc] at hn0
  exact⟨⟨[],rfl,hn0⟩,own_low hO1 ((Below.refl _ _).alloc (Nat.le_refl _) _) (by simp),((Below.refl _ _).alloc (Nat.le_refl _) _).alloc (by simp) _,by simp;omega⟩
 clear h hn hz
 go_enter Tryz.func103,Tryz.ntmps103
 go_wp2_with fail
 go_loopw [4,5] (fun v i wr=>∃(k N:Nat) (a4:Option Addr) (c4:Nat),k≤n∧N≤k∧i=.int .i64 (k:Int)∧v=.slice a4 N c4∧Hid ((Cf.init zs k).length=N∧TrS w n (Cf.init zs k) (fun _=>0) (.slice a4 N c4) wr)) (fun _ i _=>n-(intOf i).toNat)
 case atStart=>exact⟨0,0,_,_,Nat.zero_le _,Nat.zero_le _,rfl,rfl,rfl,HT0.out⟩
 case round=>
  obtain⟨k,N,a4,c4,hk,hNk,rfl,rfl,HT⟩:=hrel
  clear HT0 hmk
  by_cases hlt:k<n
  · have hki:(k:Int)<(n:Int):=by omega
    have hkl:k<zs.length:=by rw[HN.out];exact hlt
    obtain⟨hl1,⟨ss,hss,hnd⟩,hown,hbel,hQ⟩:=HT.out
    obtain⟨ab,ao,rfl,hac⟩:∃ab ao,a=some ⟨ab,ao,none⟩∧wr.cell? ⟨ab,ao+k,none⟩=some (.int .i64 (zs.getD k 0)):=by
     rcases HI.out with e|⟨b,off,e1,e2,e3⟩
     · rw[e] at hkl;simp at hkl
     refine⟨b,off,e1,(hbel.cell (p:=⟨b,off+k,none⟩) e2).trans ?_⟩
     rw[e3 k hkl,List.getD_eq_getElem?_getD,List.getElem?_eq_getElem hkl];rfl
    have hzk:=HZ.out k hkl
    obtain⟨z,hz⟩:∃z:Nat,zs.getD k 0=(z:Int):=⟨(zs.getD k 0).toNat,by omega⟩
    rw[hz] at hac
    by_cases hpos:0<z
    · have hpi:(0:Int)<(z:Int):=by omega
      have HIN:Hid (Cf.init zs (k+1)=Cf.init zs k++[((z,0),[k])]):=by
       show _=_
       conv=>lhs;unfold Cf.init
       rw[hz,if_pos (by omega),Int.toNat_natCast]
      have HND:Hid (Nodes w.heap.size (w.heap.size+1) (wr.alloc (.cells #[.int .i64 (k:Int)] 3)) (.slice a4 N c4) (((Cf.init zs k).map (fun p:Cf.Nd=>p.1)).map (fun x=>x.1)) ss):=hnd.same (fun j hj _=>Below.heap_alloc _ _ _ hj)
      have HSY:Hid (SymRow w.heap.size (wr.alloc (.cells #[.int .i64 (k:Int)] 3)) (some ⟨wr.heap.size,0,none⟩,1,[k])):=⟨Nat.le_refl _,.inr ⟨wr.heap.size,_,_,rfl,hQ,heap_alloc_new _ _,fun i hi=>by
       have:i=0:=by simpa using hi
       subst this
       rfl⟩⟩
      have HLN:Hid ((((Cf.init zs k).map (fun p:Cf.Nd=>p.1)).map (fun x=>x.1)).length=N):=by show _=_;rw[List.length_map,List.length_map];exact hl1
      have HOW:Hid (Own wr w.heap.size n (fun _=>((0:Nat):Int))∧Below w.heap.size w wr∧ss.map (fun s=>s.2.2)=(Cf.init zs k).map (fun p:Cf.Nd=>p.2)):=⟨hown,hbel,hss⟩
      clear hnd hown hbel hss HT hl1 hz hzk
      go_wp2_with (at_builtin;refine wpList_appN (wr.alloc (.cells #[.int .i64 (k:Int)] 3)) (by rfl) _ _ (by rfl) w.heap.size (w.heap.size+1) _ _ ss z N (some ⟨wr.heap.size,0,none⟩,1,[k]) (by rfl) HND.out HLN.out HSY.out (wr.heap.size+1) (by simp) (by rfl) (by omega) (by simp;omega) ?_)
      intro g cap' w' hn' _ hb'
      have HT2:Hid ((Cf.init zs (k+1)).length=N+1∧TrS w n (Cf.init zs (k+1)) (fun _=>0) (.slice (some ⟨g,0,none⟩) (N+1) cap') w'):=by
       have hbw:Below (w.heap.size+1) wr w':=((Below.refl _ _).alloc (by omega) _).trans hb'
       rw[HIN.out]
       refine⟨by rw[List.length_append];have:=HLN.out;rw[List.length_map,List.length_map] at this;rw[this];rfl,⟨ss++[(some ⟨wr.heap.size,0,none⟩,1,[k])],?_,?_⟩,own_low HOW.out.1 hbw (by omega),HOW.out.2.1.trans (hbw.mono (by omega)),Nat.lt_of_lt_of_le hQ hbw.size⟩
       · rw[List.map_append,List.map_append,HOW.out.2.2];rfl
       rw[List.map_append,List.map_append,List.map_map];exact hn'
      clear hn' hb' HIN HND HSY HLN HOW hac
      go_wp2_with fail
      go_roundw
      case rel=>exact⟨k+1,N+1,_,_,by omega,by omega,by go_num,rfl,HT2⟩
      case measure=>simp[intOf];omega
    have hpi:¬(0:Int)<(z:Int):=by omega
    have HIN:Hid (Cf.init zs (k+1)=Cf.init zs k):=by
     show _=_
     conv=>lhs;unfold Cf.init
     rw[hz,if_neg (by omega)]
    clear hnd hown hbel hss hl1 hz hzk
    go_wp2_with fail
    go_roundw
    case rel=>exact⟨k+1,N,a4,c4,by omega,by omega,by go_num,rfl,by rw[HIN.out];exact HT⟩
    case measure=>simp[intOf];omega
  have hki:¬(k:Int)<(n:Int):=by omega
  obtain rfl:k=n:=by omega
  clear HI HZ
  go_upto_if 39 with fail
  go_cut [39] from 40 (fun _ wc=>∃f,Hid (TrS w k (Cf.init zs k) f (.slice a4 N c4) wc∧InvE zs k (Cf.init zs k) f))
  case first=>
   by_cases hN1:N=1
   · subst hN1
     obtain⟨hil,⟨ss,hss,hnd⟩,hown,hbel,hQ⟩:=HT.out
     obtain⟨p,hp⟩:=List.length_eq_one_iff.1 hil
     obtain⟨-,x,hx,hpx,-⟩:=Cf.init_mem zs k p (by rw[hp];simp)
     have hsl:ss.length=1:=by have:=congrArg List.length hss;rw[List.length_map,List.length_map,hil] at this;exact this
     obtain⟨s,hs⟩:=List.length_eq_one_iff.1 hsl
     subst hs
     rw[hp] at hss
     have hs2:s.2.2=[x]:=by simpa [hpx] using hss
     obtain⟨g,rfl,-,c1,e4,(hnil|⟨b,cs,fr,e1,e2,e3,e5⟩)⟩:=hnd.at (i:=0) (by rw[hp];simp)
     · simp[hs2] at hnil
     obtain⟨sa,sc,sl⟩:=s
     simp only[List.getElem_cons_zero] at c1 e1 e3 e4 e5 hs2
     subst hs2
     subst e1
     have c1':wr.cell? ⟨g,1,none⟩=some (.slice (some ⟨b,0,none⟩) 1 sc):=c1
     have c2:wr.cell? ⟨b,0,none⟩=some (.int .i64 (x:Int)):=by
      have:=e5 0 (by simp)
      simp[World.cell?,e3,this]
     obtain⟨o1,o2⟩:=hown.2 x hx
     have o1':wr.cell? ⟨w.heap.size,x,none⟩=some (.int .i64 0):=o1
     have hxi:(x:Int)<(k:Int):=by omega
     have hsc:1≤sc:=by simpa using e4
     have HE:Hid (TrS w k (Cf.init zs k) (fun i=>if i=x then 1 else 0) (.slice (some ⟨g,0,none⟩) 1 c4) (wr.setCell ⟨w.heap.size,x,none⟩ (.int .i64 1))∧InvE zs k (Cf.init zs k) (fun i=>if i=x then 1 else 0)):=by
      refine⟨⟨⟨_,by rw[hp];simp[hpx],hnd.same (fun j _ hj=>Below.heap_setCell _ ⟨w.heap.size,x,none⟩ _ j (by show j≠w.heap.size;omega))⟩,own_set 1 hown hx (by simp) (fun i _ hi=>by simp[hi]),hbel.setCell (p:=⟨w.heap.size,x,none⟩) (Nat.le_refl _) _,by rw[World.size_setCell];exact hQ⟩,?_⟩
      have hi:=HINV.out
      exact⟨⟨hi.dup,hi.rng,fun s hs=>.inr (.inr ⟨hil,by show (if s=x then 1 else 0)≤1;split<;>omega⟩),hi.wgt,hi.len,hi.tot,hi.fin_bound⟩,by have h9:=Ct.Ex.one (zs:=zs) (p:=p) (x:=x) (by rw[HN.out];exact hp) hpx;rwa [HN.out] at h9⟩
     clear hil hss hnd hown hbel hp hpx hsl c1 e3 e4 e5 o1 HT HINV HDEEP
     go_wp2_with fail
     go_meet
     case rel=>exact⟨_,HE⟩
   have hNi:((N:Int)==1)=false:=by simp;omega
   have HE:Hid (TrS w k (Cf.init zs k) (fun _=>0) (.slice a4 N c4) wr∧InvE zs k (Cf.init zs k) (fun _=>0)):=⟨HT.out.2,⟨HINV.out,by have h9:=Ct.Ex.init (zs:=zs) (by rw[HN.out,HT.out.1];exact hN1);rwa [HN.out] at h9⟩⟩
   clear HT HINV HDEEP
   go_wp2_with fail
   go_meet
   case rel=>exact⟨_,HE⟩
  case rest=>
   obtain⟨f0,HC⟩:=hcut
   go_wp2_with fail
   go_loopw [4] (fun v wr=>∃(ps:List Cf.Nd) (f:Nat→Nat) (M:Nat) (a5:Option Addr) (c5:Nat),v=.slice a5 M c5∧M≤300∧Hid (ps.length=M∧InvE zs k ps f∧Cf.fin (ps.map (fun p:Cf.Nd=>p.1))=Cf.fin ((Cf.init zs k).map (fun p:Cf.Nd=>p.1))∧TrS w k ps f (.slice a5 M c5) wr)) (fun v _=>lenV v)
   case atStart=>exact⟨_,f0,N,a4,c4,rfl,by omega,HT.out.1,HC.out.2,rfl,HC.out.1⟩
   case round=>
    obtain⟨ps,f,M,a5,c5,rfl,hM,HP⟩:=hrel
    clear HC HT HINV
    by_cases hgo:1<M
    · have hgi:(1:Int)<(M:Int):=by omega
      obtain⟨hlen,hinv,hfin,⟨ss,hss,hnd⟩,hown,hbel,hQ⟩:=HP.out
      have hl2:1<(ps.map (fun p:Cf.Nd=>p.1)).length:=by rw[List.length_map];omega
      obtain⟨x,wx,y,wy,hx1,hy1,hxy,hxl,hyl⟩:=Cf.two hl2
      rw[List.length_map] at hxl hyl
      have HL1:Hid (Calls Tryz.prog 118 #[.slice a5 M c5,.int .i64 (-1)] wr fun e w'=>e=.returned (.int .i64 (x:Int))∧∃m,w'=wr.drewN m):=by
       have:=l3Least_any w.heap.size (w.heap.size+1) a5 M c5 (ps.map (fun p:Cf.Nd=>p.1)) ss (-1) wr hnd (by rw[List.length_map];exact hlen) (by omega)
       rw[hx1] at this;exact this
      have HL2:Hid (∀m,Calls Tryz.prog 118 #[.slice a5 M c5,.int .i64 (x:Int)] (wr.drewN m) fun e w'=>e=.returned (.int .i64 (y:Int))∧∃m',w'=(wr.drewN m).drewN m'):=fun m=>by
       have:=l3Least_any w.heap.size (w.heap.size+1) a5 M c5 (ps.map (fun p:Cf.Nd=>p.1)) ss (x:Int) (wr.drewN m) (Nodes.same (W':=wr.drewN m) hnd (fun _ _ _=>rfl)) (by rw[List.length_map];exact hlen) (by omega)
       rw[hy1] at this;exact this
      have HST:Hid (ps.length=M∧InvE zs k ps f∧Cf.fin (ps.map (fun p:Cf.Nd=>p.1))=Cf.fin ((Cf.init zs k).map (fun p:Cf.Nd=>p.1))∧ss.map (fun s=>s.2.2)=ps.map (fun p:Cf.Nd=>p.2)∧x<ps.length∧y<ps.length∧x≠y∧Cf.lst (-1) (ps.map (fun p:Cf.Nd=>p.1)) 0 none=some (x,wx)∧Cf.lst (x:Int) (ps.map (fun p:Cf.Nd=>p.1)) 0 none=some (y,wy)):=⟨hlen,hinv,hfin,hss,hxl,hyl,hxy,hx1,hy1⟩
      have HMM:Hid (Nodes w.heap.size (w.heap.size+1) wr (.slice a5 M c5) ((ps.map (fun p:Cf.Nd=>p.1)).map (fun x=>x.1)) ss∧Own wr w.heap.size k (fun i=>(f i:Int))∧Below w.heap.size w wr∧w.heap.size<wr.heap.size):=⟨hnd,hown,hbel,hQ⟩
      clear HP hlen hinv hfin hss hnd hown hbel hQ hl2 hx1 hy1 hxl hyl hxy
      go_wp2_with fail
      refine HL1.out.mono ?_
      rintro e w1 ⟨rfl,m1,hw1⟩
      subst hw1
      clear HL1
      go_wp2_with fail
      refine (HL2.out m1).mono ?_
      rintro e w3 ⟨rfl,m2,hw3⟩
      rw[World.drewN_drewN] at hw3
      have HM3:Hid (Nodes w.heap.size (w.heap.size+1) w3 (.slice a5 M c5) ((ps.map (fun p:Cf.Nd=>p.1)).map (fun x=>x.1)) ss∧Own w3 w.heap.size k (fun i=>(f i:Int))∧Below w.heap.size w w3∧w.heap.size<w3.heap.size):=by
       obtain⟨h1,h2,h3,h4⟩:=HMM.out
       rw[hw3]
       exact⟨h1.same (fun _ _ _=>rfl),h2,h3.trans ⟨rfl,rfl,rfl,Nat.le_refl _,fun _ _=>rfl⟩,h4⟩
      clear hw3 HL2 HMM
      obtain⟨hnd,hown,hbel,hQ⟩:=HM3.out
      have hxl:=HST.out.2.2.2.2.1
      have hyl:=HST.out.2.2.2.2.2.1
      have hsl:ss.length=ps.length:=by have:=congrArg List.length HST.out.2.2.2.1;rw[List.length_map,List.length_map] at this;exact this
      obtain⟨g,rfl,cx0,cx1,hsx⟩:=hnd.at (i:=x) (by rw[List.length_map,List.length_map];exact hxl)
      obtain⟨g',hg',cy0,cy1,hsy⟩:=hnd.at (i:=y) (by rw[List.length_map,List.length_map];exact hyl)
      cases hg'
      have hlx:(ss[x]'(by omega)).2.2=ps[x].2:=by
       have:=congrArg (fun l=>l[x]?) HST.out.2.2.2.1
       simp only[List.getElem?_map,List.getElem?_eq_getElem hxl,List.getElem?_eq_getElem (show x<ss.length by omega),Option.map_some] at this
       exact Option.some.inj this
      have hly:(ss[y]'(by omega)).2.2=ps[y].2:=by
       have:=congrArg (fun l=>l[y]?) HST.out.2.2.2.1
       simp only[List.getElem?_map,List.getElem?_eq_getElem hyl,List.getElem?_eq_getElem (show y<ss.length by omega),Option.map_some] at this
       exact Option.some.inj this
      simp only[List.getElem_map] at cx0 cy0
      obtain⟨ax,cx,lx,hsX⟩:∃ax cx lx,ss[x]'(by omega)=(ax,cx,lx):=⟨_,_,_,rfl⟩
      obtain⟨ay,cy,ly,hsY⟩:∃ay cy ly,ss[y]'(by omega)=(ay,cy,ly):=⟨_,_,_,rfl⟩
      rw[hsX] at cx1 hsx hlx
      rw[hsY] at cy1 hsy hly
      simp only at hlx hly
      obtain⟨LX,hLX⟩:∃LX,LX=lx.length:=⟨_,rfl⟩
      obtain⟨LY,hLY⟩:∃LY,LY=ly.length:=⟨_,rfl⟩
      obtain⟨WX,hWX⟩:∃WX,WX=ps[x].1.1:=⟨_,rfl⟩
      obtain⟨WY,hWY⟩:∃WY,WY=ps[y].1.1:=⟨_,rfl⟩
      obtain⟨WT,hWT⟩:∃WT,WT=WX+WY:=⟨_,rfl⟩
      have hinv:=HST.out.2.1
      have hWb:WT≤3000000:=by
       have h1:=Cf.sum_ge (fun p:Cf.Nd=>p.1.1) HST.out.2.2.2.2.2.2.1 ps hxl hyl
       have h2:=hinv.wgt
       omega
      obtain⟨LT,hLT⟩:∃LT,LT=LX+LY:=⟨_,rfl⟩
      have HLT:Hid (LX+LY=LT):=hLT.symm
      have hLb:LX+LY≤300:=by
       have h1:=Cf.sum_ge (fun p:Cf.Nd=>p.2.length) HST.out.2.2.2.2.2.2.1 ps hxl hyl
       have h2:=hinv.tot
       rw[←hlx,←hly] at h1
       omega
      have hLTb:LT≤300:=by omega
      have hLXb:LX≤300:=by omega
      have hLYb:LY≤300:=by omega
      have eWT:(WX:Int)+(WY:Int)=(WT:Int):=by omega
      have fWT:IntKind.i64.wrap (WT:Int)=(WT:Int):=by simp[IntKind.wrap,IntKind.bits,IntKind.signed];omega
      rw[←hWX] at cx0
      rw[←hWY] at cy0
      have cx1':w3.cell? ⟨g,x*2+1,none⟩=some (.slice ax LX cx):=by rw[hLX];exact cx1
      have cy1':w3.cell? ⟨g,y*2+1,none⟩=some (.slice ay LY cy):=by rw[hLY];exact cy1
      have hglt:g<w3.heap.size:=World.block_lt_of_cell? _ _ cx0
      have HS0:Hid (w3.cell? ⟨g,x*2,none⟩=some (.int .i64 (WX:Int))∧w3.cell? ⟨g,x*2+1,none⟩=some (.slice ax LX cx)∧w3.cell? ⟨g,y*2,none⟩=some (.int .i64 (WY:Int))∧w3.cell? ⟨g,y*2+1,none⟩=some (.slice ay LY cy)):=⟨cx0,cx1',cy0,cy1'⟩
      have HS:Hid (∀X,Below w3.heap.size w3 X→X.cell? ⟨g,x*2,none⟩=some (.int .i64 (WX:Int))∧X.cell? ⟨g,x*2+1,none⟩=some (.slice ax LX cx)∧X.cell? ⟨g,y*2,none⟩=some (.int .i64 (WY:Int))∧X.cell? ⟨g,y*2+1,none⟩=some (.slice ay LY cy)):=fun X b=>
       ⟨(b.cell (p:=⟨g,x*2,none⟩) hglt).trans cx0,(b.cell (p:=⟨g,x*2+1,none⟩) hglt).trans cx1',(b.cell (p:=⟨g,y*2,none⟩) hglt).trans cy0,(b.cell (p:=⟨g,y*2+1,none⟩) hglt).trans cy1'⟩
      have HIX:Hid (∀X,Below w3.heap.size w3 X→Ints X ax (lx.map (fun x:Nat=>(x:Int)))):=fun X b=>hsx.ints.kept b
      have HIY:Hid (∀X,Below w3.heap.size w3 X→Ints X ay (ly.map (fun x:Nat=>(x:Int)))):=fun X b=>hsy.ints.kept b
      have HLX:Hid ((lx.map (fun x:Nat=>(x:Int))).length=LX):=by show _=_;rw[List.length_map,hLX]
      have HLY:Hid ((ly.map (fun x:Nat=>(x:Int))).length=LY):=by show _=_;rw[List.length_map,hLY]
      have HQ3:Hid (w.heap.size<w3.heap.size):=hQ
      have bb0:Below w3.heap.size w3 w3.drew:=(Below.refl _ _).drew
      have hxi:(x:Int)<(M:Int):=by have:=HST.out.1;omega
      have hyi:(y:Int)<(M:Int):=by have:=HST.out.1;omega
      have hxM:x<M:=by omega
      have hyM:y<M:=by omega
      have HPX:Hid (lx=ps[x].2∧ly=ps[y].2∧WT=ps[x].1.1+ps[y].1.1):=⟨hlx,hly,by rw[hWT,hWX,hWY]⟩
      clear hnd hown hbel hQ hsx hsy hlx hly cx0 cx1 cy0 cy1 cx1' cy1' hsX hsY hLX hLY hWX hWY hWT hinv hsl HDEEP hLT hLb
      go_upto_region 13 with fail
      go_cut [8] from 56 to 80 (fun p8 wc=>∃(Bn:Nat) (s:Sy),p8=.pointer (some ⟨Bn,0,none⟩)∧Hid (T13 w.heap.size w3 Bn WT s (lx++ly) wc))
      case first=>
       refine wp_region_held_drew (S:=fun w'=>w'.cell? ⟨g,x*2,none⟩=some (.int .i64 (WX:Int))∧w'.cell? ⟨g,x*2+1,none⟩=some (.slice ax LX cx)∧w'.cell? ⟨g,y*2,none⟩=some (.int .i64 (WY:Int))∧w'.cell? ⟨g,y*2+1,none⟩=some (.slice ay LY cy)) (by kernel_rfl) HS0.out (fun hHeld=>?_)
       refine tkI (i:=0) (v:=.slice (some ⟨g,0,none⟩) M c5) rfl (Or.inl ⟨by rfl,?_⟩) hHeld ?_
       · rintro w' ⟨s1,s2,s3,s4⟩
         go_simp
       try simp only[Act.put,List.setIfInBounds_toArray,List.set_cons_zero,List.set_cons_succ]
       refine tkI (i:=1) (v:=.int .i64 (x:Int)) rfl (Or.inl ⟨by rfl,?_⟩) hHeld ?_
       · rintro w' ⟨s1,s2,s3,s4⟩
         go_simp
       try simp only[Act.put,List.setIfInBounds_toArray,List.set_cons_zero,List.set_cons_succ]
       refine tkI (i:=2) (v:=.pointer (some ⟨g,x*2,none⟩)) rfl (Or.inl ⟨by rfl,?_⟩) hHeld ?_
       · rintro w' ⟨s1,s2,s3,s4⟩
         go_simp
       try simp only[Act.put,List.setIfInBounds_toArray,List.set_cons_zero,List.set_cons_succ]
       refine tkI (i:=3) (v:=.pointer (some ⟨g,x*2,none⟩)) rfl (Or.inl ⟨by rfl,?_⟩) hHeld ?_
       · rintro w' ⟨s1,s2,s3,s4⟩
         go_simp
       try simp only[Act.put,List.setIfInBounds_toArray,List.set_cons_zero,List.set_cons_succ]
       refine tkI (i:=4) (v:=.int .i64 (WX:Int)) rfl (Or.inl ⟨by rfl,?_⟩) hHeld ?_
       · rintro w' ⟨s1,s2,s3,s4⟩
         go_simp
       try simp only[Act.put,List.setIfInBounds_toArray,List.set_cons_zero,List.set_cons_succ]
       refine tkI (i:=5) (v:=.slice (some ⟨g,0,none⟩) M c5) rfl (Or.inl ⟨by rfl,?_⟩) hHeld ?_
       · rintro w' ⟨s1,s2,s3,s4⟩
         go_simp
       try simp only[Act.put,List.setIfInBounds_toArray,List.set_cons_zero,List.set_cons_succ]
       refine tkI (i:=6) (v:=.int .i64 (y:Int)) rfl (Or.inl ⟨by rfl,?_⟩) hHeld ?_
       · rintro w' ⟨s1,s2,s3,s4⟩
         go_simp
       try simp only[Act.put,List.setIfInBounds_toArray,List.set_cons_zero,List.set_cons_succ]
       refine tkI (i:=7) (v:=.pointer (some ⟨g,y*2,none⟩)) rfl (Or.inl ⟨by rfl,?_⟩) hHeld ?_
       · rintro w' ⟨s1,s2,s3,s4⟩
         go_simp
       try simp only[Act.put,List.setIfInBounds_toArray,List.set_cons_zero,List.set_cons_succ]
       refine tkI (i:=8) (v:=.pointer (some ⟨g,y*2,none⟩)) rfl (Or.inl ⟨by rfl,?_⟩) hHeld ?_
       · rintro w' ⟨s1,s2,s3,s4⟩
         go_simp
       try simp only[Act.put,List.setIfInBounds_toArray,List.set_cons_zero,List.set_cons_succ]
       refine tkI (i:=9) (v:=.int .i64 (WY:Int)) rfl (Or.inl ⟨by rfl,?_⟩) hHeld ?_
       · rintro w' ⟨s1,s2,s3,s4⟩
         go_simp
       try simp only[Act.put,List.setIfInBounds_toArray,List.set_cons_zero,List.set_cons_succ]
       refine tkI (i:=10) (v:=.int .i64 (WT:Int)) rfl (Or.inl ⟨by rfl,?_⟩) hHeld ?_
       · rintro w' ⟨s1,s2,s3,s4⟩
         go_simp
       try simp only[Act.put,List.setIfInBounds_toArray,List.set_cons_zero,List.set_cons_succ]
       refine tkI (i:=12) (v:=.slice (some ⟨g,0,none⟩) M c5) rfl (Or.inl ⟨by rfl,?_⟩) hHeld ?_
       · rintro w' ⟨s1,s2,s3,s4⟩
         go_simp
       try simp only[Act.put,List.setIfInBounds_toArray,List.set_cons_zero,List.set_cons_succ]
       refine tkI (i:=13) (v:=.int .i64 (x:Int)) rfl (Or.inl ⟨by rfl,?_⟩) hHeld ?_
       · rintro w' ⟨s1,s2,s3,s4⟩
         go_simp
       try simp only[Act.put,List.setIfInBounds_toArray,List.set_cons_zero,List.set_cons_succ]
       refine tkI (i:=14) (v:=.pointer (some ⟨g,x*2,none⟩)) rfl (Or.inl ⟨by rfl,?_⟩) hHeld ?_
       · rintro w' ⟨s1,s2,s3,s4⟩
         go_simp
       try simp only[Act.put,List.setIfInBounds_toArray,List.set_cons_zero,List.set_cons_succ]
       refine tkI (i:=15) (v:=.pointer (some ⟨g,x*2+1,none⟩)) rfl (Or.inl ⟨by rfl,?_⟩) hHeld ?_
       · rintro w' ⟨s1,s2,s3,s4⟩
         go_simp
       try simp only[Act.put,List.setIfInBounds_toArray,List.set_cons_zero,List.set_cons_succ]
       refine tkI (i:=16) (v:=.slice ax LX cx) rfl (Or.inl ⟨by rfl,?_⟩) hHeld ?_
       · rintro w' ⟨s1,s2,s3,s4⟩
         go_simp
       try simp only[Act.put,List.setIfInBounds_toArray,List.set_cons_zero,List.set_cons_succ]
       refine tkI (i:=18) (v:=.slice (some ⟨g,0,none⟩) M c5) rfl (Or.inl ⟨by rfl,?_⟩) hHeld ?_
       · rintro w' ⟨s1,s2,s3,s4⟩
         go_simp
       try simp only[Act.put,List.setIfInBounds_toArray,List.set_cons_zero,List.set_cons_succ]
       refine tkI (i:=19) (v:=.int .i64 (y:Int)) rfl (Or.inl ⟨by rfl,?_⟩) hHeld ?_
       · rintro w' ⟨s1,s2,s3,s4⟩
         go_simp
       try simp only[Act.put,List.setIfInBounds_toArray,List.set_cons_zero,List.set_cons_succ]
       refine tkI (i:=20) (v:=.pointer (some ⟨g,y*2,none⟩)) rfl (Or.inl ⟨by rfl,?_⟩) hHeld ?_
       · rintro w' ⟨s1,s2,s3,s4⟩
         go_simp
       try simp only[Act.put,List.setIfInBounds_toArray,List.set_cons_zero,List.set_cons_succ]
       refine tkI (i:=21) (v:=.pointer (some ⟨g,y*2+1,none⟩)) rfl (Or.inl ⟨by rfl,?_⟩) hHeld ?_
       · rintro w' ⟨s1,s2,s3,s4⟩
         go_simp
       try simp only[Act.put,List.setIfInBounds_toArray,List.set_cons_zero,List.set_cons_succ]
       refine tkI (i:=22) (v:=.slice ay LY cy) rfl (Or.inl ⟨by rfl,?_⟩) hHeld ?_
       · rintro w' ⟨s1,s2,s3,s4⟩
         go_simp
       try simp only[Act.put,List.setIfInBounds_toArray,List.set_cons_zero,List.set_cons_succ]
       try simp only[Act.put,List.setIfInBounds_toArray,List.set_cons_zero,List.set_cons_succ]
       refine wpAnyH_ready (rs:=[11,25]) (by kernel_rfl) (by simp) ?_
       refine AllReadyH.cons rfl (fun K hK=>?_) (AllReadyH.cons rfl (fun K hK=>?_) AllReadyH.nil)
       · skip
         go_simp
         obtain⟨X1,hX1⟩:∃XX,(w3.drew).alloc (.cells #[] 3)=XX:=⟨_,rfl⟩
         have bb1:Below w3.heap.size w3 X1:=by rw[←hX1];exact bb0.alloc bb0.size _
         have oo1:OwnI X1 w3.heap.size (.slice (some ⟨w3.heap.size,0,none⟩) 0 0) 0 []:=by rw[←hX1];exact (ownI_none (w3.drew)).lower bb0.size
         refine hK.out _ ((w3.drew).alloc (.cells #[] 3)) (HS.out _ (by rw[hX1];exact bb1)) (fun hHeld=>?_)
         rw[hX1] at hHeld ⊢
         clear hK K
         try simp only[Act.put,List.setIfInBounds_toArray,List.set_cons_zero,List.set_cons_succ]
         refine wpAnyH_ready (rs:=[17,25]) (by kernel_rfl) (by simp) ?_
         refine AllReadyH.cons rfl (fun K hK=>?_) (AllReadyH.cons rfl (fun K hK=>?_) AllReadyH.nil)
         · skip
           refine step_app_n (by rfl) _ _ (by rfl) w3.heap.size (.slice (some ⟨w3.heap.size,0,none⟩) 0 0) 0 LX [] (lx.map (fun x:Nat=>(x:Int))) (by rfl) oo1 ax LX cx (lx.map (fun x:Nat=>(x:Int))) (by rfl) (HIX.out _ bb1) HLX.out (by omega) (by simp) (by omega) bb1.size ?_
           intro ar2 cr2 X2 oo2 gg2
           have bb2:Below w3.heap.size w3 X2:=bb1.grown gg2 bb1.size (fun j hj=>(World.ownsRow.lt (show World.ownsRow _ _ _ _ _ _ _ from oo1) j hj).1)
           refine hK.out _ X2 (HS.out _ bb2) (fun hHeld=>?_)
           clear hK K
           try simp only[Act.put,List.setIfInBounds_toArray,List.set_cons_zero,List.set_cons_succ]
           refine wpAnyH_ready (rs:=[23,25]) (by kernel_rfl) (by simp) ?_
           refine AllReadyH.cons rfl (fun K hK=>?_) (AllReadyH.cons rfl (fun K hK=>?_) AllReadyH.nil)
           · skip
             refine step_app_n (by rfl) _ _ (by rfl) w3.heap.size (.slice ar2 LX cr2) LX LT (lx.map (fun x:Nat=>(x:Int))) ((lx++ly).map (fun x:Nat=>(x:Int))) (by rfl) oo2 ay LY cy (ly.map (fun x:Nat=>(x:Int))) (by rfl) (HIY.out _ bb2) HLY.out HLT.out (by rw[List.map_append]) (by omega) bb2.size ?_
             intro ar3 cr3 X3 oo3 gg3
             have bb3:Below w3.heap.size w3 X3:=bb2.grown gg3 bb2.size (fun j hj=>(World.ownsRow.lt (show World.ownsRow _ _ _ _ _ _ _ from oo2) j hj).1)
             refine hK.out _ X3 (HS.out _ bb3) (fun hHeld=>?_)
             clear hK K
             try simp only[Act.put,List.setIfInBounds_toArray,List.set_cons_zero,List.set_cons_succ]
             refine tkI (i:=24) (v:=.agg #[.int .i64 (WT:Int),.slice ar3 LT cr3]) rfl (Or.inl ⟨by rfl,?_⟩) hHeld ?_
             · rintro w' ⟨s1,s2,s3,s4⟩
               go_simp
             try simp only[Act.put,List.setIfInBounds_toArray,List.set_cons_zero,List.set_cons_succ]
             refine wpAnyH_ready (rs:=[25]) (by kernel_rfl) (by simp) ?_
             refine AllReadyH.cons rfl (fun K hK=>?_) AllReadyH.nil
             go_simp
             obtain⟨X4,hX4⟩:∃XX,(X3).alloc (.cells #[.int .i64 0,.slice none 0 0] 166)=XX:=⟨_,rfl⟩
             have bb4:Below w3.heap.size w3 X4:=by rw[←hX4];exact bb3.alloc bb3.size _
             have oo4:=(show OwnI X4 w3.heap.size _ _ _ by rw[←hX4];exact ownI_alloc oo3 _)
             have nn4:X4.heap[(X3).heap.size]?=some (.cells #[.int .i64 0,.slice none 0 0] 166):=by rw[←hX4];exact heap_alloc_new _ _
             refine hK.out _ ((X3).alloc (.cells #[.int .i64 0,.slice none 0 0] 166)) (HS.out _ (by rw[hX4];exact bb4)) (fun hHeld=>?_)
             rw[hX4] at hHeld ⊢
             clear hK K
             try simp only[Act.put,List.setIfInBounds_toArray,List.set_cons_zero,List.set_cons_succ]
             refine wpAnyH_ready (rs:=[26]) (by kernel_rfl) (by simp) ?_
             refine AllReadyH.cons rfl (fun K hK=>?_) AllReadyH.nil
             obtain⟨k0,k1,f0,f1⟩:=box_cells nn4
             have hBl:w3.heap.size≤(X3).heap.size:=bb3.size
             have HFIN:Hid (T13 w.heap.size w3 ((X3).heap.size) WT (ar3,cr3,lx++ly) (lx++ly) ((X4.setCell ⟨(X3).heap.size,0,none⟩ (.int .i64 (WT:Int))).setCell ⟨(X3).heap.size,1,none⟩ (.slice ar3 LT cr3))):=t13_mk bb4 nn4 hBl oo4 HQ3.out
             go_simp
             refine hK.out _ ((X4.setCell ⟨(X3).heap.size,0,none⟩ (.int .i64 (WT:Int))).setCell ⟨(X3).heap.size,1,none⟩ (.slice ar3 LT cr3)) (HS.out _ HFIN.out.1) (fun hHeld=>?_)
             clear hK K
             try simp only[Act.put,List.setIfInBounds_toArray,List.set_cons_zero,List.set_cons_succ]
             refine wpAnyH_done (by kernel_rfl) ?_ _
             clear hHeld k0 k1 f0 f1
             go_wp2_with fail
             go_meet
             case rel=>exact⟨_,_,rfl,HFIN⟩
           skip
           go_simp
           obtain⟨X6,hX6⟩:∃XX,(X2).alloc (.cells #[.int .i64 0,.slice none 0 0] 166)=XX:=⟨_,rfl⟩
           have bb6:Below w3.heap.size w3 X6:=by rw[←hX6];exact bb2.alloc bb2.size _
           have oo6:=(show OwnI X6 w3.heap.size _ _ _ by rw[←hX6];exact ownI_alloc oo2 _)
           have nn6:X6.heap[(X2).heap.size]?=some (.cells #[.int .i64 0,.slice none 0 0] 166):=by rw[←hX6];exact heap_alloc_new _ _
           refine hK.out _ ((X2).alloc (.cells #[.int .i64 0,.slice none 0 0] 166)) (HS.out _ (by rw[hX6];exact bb6)) (fun hHeld=>?_)
           rw[hX6] at hHeld ⊢
           clear hK K
           try simp only[Act.put,List.setIfInBounds_toArray,List.set_cons_zero,List.set_cons_succ]
           refine wpAnyH_ready (rs:=[23]) (by kernel_rfl) (by simp) ?_
           refine AllReadyH.cons rfl (fun K hK=>?_) AllReadyH.nil
           refine step_app_n (by rfl) _ _ (by rfl) w3.heap.size (.slice ar2 LX cr2) LX LT (lx.map (fun x:Nat=>(x:Int))) ((lx++ly).map (fun x:Nat=>(x:Int))) (by rfl) oo6 ay LY cy (ly.map (fun x:Nat=>(x:Int))) (by rfl) (HIY.out _ bb6) HLY.out HLT.out (by rw[List.map_append]) (by omega) bb6.size ?_
           intro ar7 cr7 X7 oo7 gg7
           have bb7:Below w3.heap.size w3 X7:=bb6.grown gg7 bb6.size (fun j hj=>(World.ownsRow.lt (show World.ownsRow _ _ _ _ _ _ _ from oo6) j hj).1)
           have nn7:X7.heap[(X2).heap.size]?=some (.cells #[.int .i64 0,.slice none 0 0] 166):=(gg7.block _ (Array.getElem?_eq_some_iff.1 nn6).1 (fun e=>own_not oo6 nn6 e.symm)).trans nn6
           refine hK.out _ X7 (HS.out _ bb7) (fun hHeld=>?_)
           clear hK K
           try simp only[Act.put,List.setIfInBounds_toArray,List.set_cons_zero,List.set_cons_succ]
           refine tkI (i:=24) (v:=.agg #[.int .i64 (WT:Int),.slice ar7 LT cr7]) rfl (Or.inl ⟨by rfl,?_⟩) hHeld ?_
           · rintro w' ⟨s1,s2,s3,s4⟩
             go_simp
           try simp only[Act.put,List.setIfInBounds_toArray,List.set_cons_zero,List.set_cons_succ]
           refine wpAnyH_ready (rs:=[26]) (by kernel_rfl) (by simp) ?_
           refine AllReadyH.cons rfl (fun K hK=>?_) AllReadyH.nil
           obtain⟨k0,k1,f0,f1⟩:=box_cells nn7
           have hBl:w3.heap.size≤(X2).heap.size:=bb2.size
           have HFIN:Hid (T13 w.heap.size w3 ((X2).heap.size) WT (ar7,cr7,lx++ly) (lx++ly) ((X7.setCell ⟨(X2).heap.size,0,none⟩ (.int .i64 (WT:Int))).setCell ⟨(X2).heap.size,1,none⟩ (.slice ar7 LT cr7))):=t13_mk bb7 nn7 hBl oo7 HQ3.out
           go_simp
           refine hK.out _ ((X7.setCell ⟨(X2).heap.size,0,none⟩ (.int .i64 (WT:Int))).setCell ⟨(X2).heap.size,1,none⟩ (.slice ar7 LT cr7)) (HS.out _ HFIN.out.1) (fun hHeld=>?_)
           clear hK K
           try simp only[Act.put,List.setIfInBounds_toArray,List.set_cons_zero,List.set_cons_succ]
           refine wpAnyH_done (by kernel_rfl) ?_ _
           clear hHeld k0 k1 f0 f1
           go_wp2_with fail
           go_meet
           case rel=>exact⟨_,_,rfl,HFIN⟩
         skip
         go_simp
         obtain⟨X9,hX9⟩:∃XX,(X1).alloc (.cells #[.int .i64 0,.slice none 0 0] 166)=XX:=⟨_,rfl⟩
         have bb9:Below w3.heap.size w3 X9:=by rw[←hX9];exact bb1.alloc bb1.size _
         have oo9:=(show OwnI X9 w3.heap.size _ _ _ by rw[←hX9];exact ownI_alloc oo1 _)
         have nn9:X9.heap[(X1).heap.size]?=some (.cells #[.int .i64 0,.slice none 0 0] 166):=by rw[←hX9];exact heap_alloc_new _ _
         refine hK.out _ ((X1).alloc (.cells #[.int .i64 0,.slice none 0 0] 166)) (HS.out _ (by rw[hX9];exact bb9)) (fun hHeld=>?_)
         rw[hX9] at hHeld ⊢
         clear hK K
         try simp only[Act.put,List.setIfInBounds_toArray,List.set_cons_zero,List.set_cons_succ]
         refine wpAnyH_ready (rs:=[17]) (by kernel_rfl) (by simp) ?_
         refine AllReadyH.cons rfl (fun K hK=>?_) AllReadyH.nil
         refine step_app_n (by rfl) _ _ (by rfl) w3.heap.size (.slice (some ⟨w3.heap.size,0,none⟩) 0 0) 0 LX [] (lx.map (fun x:Nat=>(x:Int))) (by rfl) oo9 ax LX cx (lx.map (fun x:Nat=>(x:Int))) (by rfl) (HIX.out _ bb9) HLX.out (by omega) (by simp) (by omega) bb9.size ?_
         intro ar10 cr10 X10 oo10 gg10
         have bb10:Below w3.heap.size w3 X10:=bb9.grown gg10 bb9.size (fun j hj=>(World.ownsRow.lt (show World.ownsRow _ _ _ _ _ _ _ from oo9) j hj).1)
         have nn10:X10.heap[(X1).heap.size]?=some (.cells #[.int .i64 0,.slice none 0 0] 166):=(gg10.block _ (Array.getElem?_eq_some_iff.1 nn9).1 (fun e=>own_not oo9 nn9 e.symm)).trans nn9
         refine hK.out _ X10 (HS.out _ bb10) (fun hHeld=>?_)
         clear hK K
         try simp only[Act.put,List.setIfInBounds_toArray,List.set_cons_zero,List.set_cons_succ]
         refine wpAnyH_ready (rs:=[23]) (by kernel_rfl) (by simp) ?_
         refine AllReadyH.cons rfl (fun K hK=>?_) AllReadyH.nil
         refine step_app_n (by rfl) _ _ (by rfl) w3.heap.size (.slice ar10 LX cr10) LX LT (lx.map (fun x:Nat=>(x:Int))) ((lx++ly).map (fun x:Nat=>(x:Int))) (by rfl) oo10 ay LY cy (ly.map (fun x:Nat=>(x:Int))) (by rfl) (HIY.out _ bb10) HLY.out HLT.out (by rw[List.map_append]) (by omega) bb10.size ?_
         intro ar11 cr11 X11 oo11 gg11
         have bb11:Below w3.heap.size w3 X11:=bb10.grown gg11 bb10.size (fun j hj=>(World.ownsRow.lt (show World.ownsRow _ _ _ _ _ _ _ from oo10) j hj).1)
         have nn11:X11.heap[(X1).heap.size]?=some (.cells #[.int .i64 0,.slice none 0 0] 166):=(gg11.block _ (Array.getElem?_eq_some_iff.1 nn10).1 (fun e=>own_not oo10 nn10 e.symm)).trans nn10
         refine hK.out _ X11 (HS.out _ bb11) (fun hHeld=>?_)
         clear hK K
         try simp only[Act.put,List.setIfInBounds_toArray,List.set_cons_zero,List.set_cons_succ]
         refine tkI (i:=24) (v:=.agg #[.int .i64 (WT:Int),.slice ar11 LT cr11]) rfl (Or.inl ⟨by rfl,?_⟩) hHeld ?_
         · rintro w' ⟨s1,s2,s3,s4⟩
           go_simp
         try simp only[Act.put,List.setIfInBounds_toArray,List.set_cons_zero,List.set_cons_succ]
         refine wpAnyH_ready (rs:=[26]) (by kernel_rfl) (by simp) ?_
         refine AllReadyH.cons rfl (fun K hK=>?_) AllReadyH.nil
         obtain⟨k0,k1,f0,f1⟩:=box_cells nn11
         have hBl:w3.heap.size≤(X1).heap.size:=bb1.size
         have HFIN:Hid (T13 w.heap.size w3 ((X1).heap.size) WT (ar11,cr11,lx++ly) (lx++ly) ((X11.setCell ⟨(X1).heap.size,0,none⟩ (.int .i64 (WT:Int))).setCell ⟨(X1).heap.size,1,none⟩ (.slice ar11 LT cr11))):=t13_mk bb11 nn11 hBl oo11 HQ3.out
         go_simp
         refine hK.out _ ((X11.setCell ⟨(X1).heap.size,0,none⟩ (.int .i64 (WT:Int))).setCell ⟨(X1).heap.size,1,none⟩ (.slice ar11 LT cr11)) (HS.out _ HFIN.out.1) (fun hHeld=>?_)
         clear hK K
         try simp only[Act.put,List.setIfInBounds_toArray,List.set_cons_zero,List.set_cons_succ]
         refine wpAnyH_done (by kernel_rfl) ?_ _
         clear hHeld k0 k1 f0 f1
         go_wp2_with fail
         go_meet
         case rel=>exact⟨_,_,rfl,HFIN⟩
       skip
       go_simp
       obtain⟨X13,hX13⟩:∃XX,(w3.drew).alloc (.cells #[.int .i64 0,.slice none 0 0] 166)=XX:=⟨_,rfl⟩
       have bb13:Below w3.heap.size w3 X13:=by rw[←hX13];exact bb0.alloc bb0.size _
       have nn13:X13.heap[w3.heap.size]?=some (.cells #[.int .i64 0,.slice none 0 0] 166):=by rw[←hX13];exact heap_alloc_new _ _
       refine hK.out _ ((w3.drew).alloc (.cells #[.int .i64 0,.slice none 0 0] 166)) (HS.out _ (by rw[hX13];exact bb13)) (fun hHeld=>?_)
       rw[hX13] at hHeld ⊢
       clear hK K
       try simp only[Act.put,List.setIfInBounds_toArray,List.set_cons_zero,List.set_cons_succ]
       refine wpAnyH_ready (rs:=[11]) (by kernel_rfl) (by simp) ?_
       refine AllReadyH.cons rfl (fun K hK=>?_) AllReadyH.nil
       go_simp
       obtain⟨X14,hX14⟩:∃XX,(X13).alloc (.cells #[] 3)=XX:=⟨_,rfl⟩
       have bb14:Below w3.heap.size w3 X14:=by rw[←hX14];exact bb13.alloc bb13.size _
       have oo14:OwnI X14 w3.heap.size (.slice (some ⟨(X13).heap.size,0,none⟩) 0 0) 0 []:=by rw[←hX14];exact (ownI_none (X13)).lower bb13.size
       have nn14:X14.heap[w3.heap.size]?=some (.cells #[.int .i64 0,.slice none 0 0] 166):=by rw[←hX14];exact (Below.heap_alloc _ _ _ (Array.getElem?_eq_some_iff.1 nn13).1).trans nn13
       refine hK.out _ ((X13).alloc (.cells #[] 3)) (HS.out _ (by rw[hX14];exact bb14)) (fun hHeld=>?_)
       rw[hX14] at hHeld ⊢
       clear hK K
       try simp only[Act.put,List.setIfInBounds_toArray,List.set_cons_zero,List.set_cons_succ]
       refine wpAnyH_ready (rs:=[17]) (by kernel_rfl) (by simp) ?_
       refine AllReadyH.cons rfl (fun K hK=>?_) AllReadyH.nil
       refine step_app_n (by rfl) _ _ (by rfl) w3.heap.size (.slice (some ⟨(X13).heap.size,0,none⟩) 0 0) 0 LX [] (lx.map (fun x:Nat=>(x:Int))) (by rfl) oo14 ax LX cx (lx.map (fun x:Nat=>(x:Int))) (by rfl) (HIX.out _ bb14) HLX.out (by omega) (by simp) (by omega) bb14.size ?_
       intro ar15 cr15 X15 oo15 gg15
       have bb15:Below w3.heap.size w3 X15:=bb14.grown gg15 bb14.size (fun j hj=>(World.ownsRow.lt (show World.ownsRow _ _ _ _ _ _ _ from oo14) j hj).1)
       have nn15:X15.heap[w3.heap.size]?=some (.cells #[.int .i64 0,.slice none 0 0] 166):=(gg15.block _ (Array.getElem?_eq_some_iff.1 nn14).1 (fun e=>own_not oo14 nn14 e.symm)).trans nn14
       refine hK.out _ X15 (HS.out _ bb15) (fun hHeld=>?_)
       clear hK K
       try simp only[Act.put,List.setIfInBounds_toArray,List.set_cons_zero,List.set_cons_succ]
       refine wpAnyH_ready (rs:=[23]) (by kernel_rfl) (by simp) ?_
       refine AllReadyH.cons rfl (fun K hK=>?_) AllReadyH.nil
       refine step_app_n (by rfl) _ _ (by rfl) w3.heap.size (.slice ar15 LX cr15) LX LT (lx.map (fun x:Nat=>(x:Int))) ((lx++ly).map (fun x:Nat=>(x:Int))) (by rfl) oo15 ay LY cy (ly.map (fun x:Nat=>(x:Int))) (by rfl) (HIY.out _ bb15) HLY.out HLT.out (by rw[List.map_append]) (by omega) bb15.size ?_
       intro ar16 cr16 X16 oo16 gg16
       have bb16:Below w3.heap.size w3 X16:=bb15.grown gg16 bb15.size (fun j hj=>(World.ownsRow.lt (show World.ownsRow _ _ _ _ _ _ _ from oo15) j hj).1)
       have nn16:X16.heap[w3.heap.size]?=some (.cells #[.int .i64 0,.slice none 0 0] 166):=(gg16.block _ (Array.getElem?_eq_some_iff.1 nn15).1 (fun e=>own_not oo15 nn15 e.symm)).trans nn15
       refine hK.out _ X16 (HS.out _ bb16) (fun hHeld=>?_)
       clear hK K
       try simp only[Act.put,List.setIfInBounds_toArray,List.set_cons_zero,List.set_cons_succ]
       refine tkI (i:=24) (v:=.agg #[.int .i64 (WT:Int),.slice ar16 LT cr16]) rfl (Or.inl ⟨by rfl,?_⟩) hHeld ?_
       · rintro w' ⟨s1,s2,s3,s4⟩
         go_simp
       try simp only[Act.put,List.setIfInBounds_toArray,List.set_cons_zero,List.set_cons_succ]
       refine wpAnyH_ready (rs:=[26]) (by kernel_rfl) (by simp) ?_
       refine AllReadyH.cons rfl (fun K hK=>?_) AllReadyH.nil
       obtain⟨k0,k1,f0,f1⟩:=box_cells nn16
       have hBl:w3.heap.size≤w3.heap.size:=bb0.size
       have HFIN:Hid (T13 w.heap.size w3 (w3.heap.size) WT (ar16,cr16,lx++ly) (lx++ly) ((X16.setCell ⟨w3.heap.size,0,none⟩ (.int .i64 (WT:Int))).setCell ⟨w3.heap.size,1,none⟩ (.slice ar16 LT cr16))):=t13_mk bb16 nn16 hBl oo16 HQ3.out
       go_simp
       refine hK.out _ ((X16.setCell ⟨w3.heap.size,0,none⟩ (.int .i64 (WT:Int))).setCell ⟨w3.heap.size,1,none⟩ (.slice ar16 LT cr16)) (HS.out _ HFIN.out.1) (fun hHeld=>?_)
       clear hK K
       try simp only[Act.put,List.setIfInBounds_toArray,List.set_cons_zero,List.set_cons_succ]
       refine wpAnyH_done (by kernel_rfl) ?_ _
       clear hHeld k0 k1 f0 f1
       go_wp2_with fail
       go_meet
       case rel=>exact⟨_,_,rfl,HFIN⟩
      case rest=>
       obtain⟨Bn,s,rfl,HC⟩:=hcut
       obtain⟨b13,hBn,hbox,hsy,hsl⟩:=HC.out
       obtain⟨sa,sc,sl⟩:=s
       simp only at hsl
       subst hsl
       obtain⟨LL,hLL⟩:∃LL,LL=(lx++ly).length:=⟨_,rfl⟩
       have hLLb:LL≤600:=by
        have h1:=HLX.out
        have h2:=HLY.out
        rw[List.length_map] at h1 h2
        rw[hLL,List.length_append];omega
       have hbox2:wc.heap[Bn]?=some (.cells #[.int .i64 (WT:Int),.slice sa LL sc] 166 (0,0)):=by rw[hLL];exact hbox
       have HNDc:Hid (Nodes w.heap.size (w.heap.size+1) wc (.slice (some ⟨g,0,none⟩) M c5) ((ps.map (fun p:Cf.Nd=>p.1)).map (fun x=>x.1)) ss):=HM3.out.1.same (fun j hj _=>b13.block j hj)
       have HOWc:Hid (Own wc w.heap.size k (fun i=>((f i:Nat):Int))):=own_low HM3.out.2.1 b13 HQ3.out
       have HBLc:Hid (Below w.heap.size w wc∧w.heap.size<wc.heap.size):=⟨HM3.out.2.2.1.trans (b13.mono (Nat.le_of_lt HQ3.out)),Nat.lt_of_lt_of_le HQ3.out b13.size⟩
       have hBQ:Bn≠w.heap.size:=by have:=HQ3.out;omega
       have HBX:Hid (wc.heap[Bn]?=some (.cells #[.int .i64 (WT:Int),.slice sa LL sc] 166 (0,0))):=hbox2
       have HSY:Hid (SymRow w.heap.size wc (sa,sc,lx++ly)):=hsy
       have HLL:Hid (LL=(lx++ly).length):=hLL
       have HRG:Hid (∀z∈lx++ly,z<k):=fun z hz=>by
        rw[HPX.out.1,HPX.out.2.1] at hz
        rcases List.mem_append.1 hz with hz|hz
        · exact HST.out.2.1.rng _ (List.getElem_mem hxl) z hz
        exact HST.out.2.1.rng _ (List.getElem_mem hyl) z hz
       have HFB:Hid (∀z,z<k→f z≤400):=fun z hz=>by
        rcases HST.out.2.1.hgt z hz with h0|⟨p,hp,_,hle⟩|⟨h1,h2⟩
        · omega
        · have h3:=HST.out.2.1.fin_bound p hp
          omega
        omega
       have HPL0:Hid (lx++ly=ps[x].2++ps[y].2):=by show _=_;rw[←HPX.out.1,←HPX.out.2.1]
       obtain⟨L,hL⟩:∃L,lx++ly=L:=⟨_,rfl⟩
       rw[hL] at HPL0 HSY HLL HRG
       have HPL:Hid (L=ps[x].2++ps[y].2):=HPL0
       clear hL HPL0
       clear HC b13 hbox hbox2 hsy hLL HM3 HS0 HS HIX HIY HLX HLY hglt hBn bb0 eWT fWT
       go_wp2_with fail
       generalize hgw:wr=ow at*
       clear hgw
       go_loopw [9] (fun i wr=>∃q:Nat,q≤LL∧i=.int .i64 (q:Int)∧Hid (Own wr w.heap.size k (fun i=>((f i+(L.take q).count i:Nat):Int))∧Only w.heap.size wc wr)) (fun i _=>LL-(intOf i).toNat)
       case atStart=>exact⟨0,Nat.zero_le _,rfl,by simpa using HOWc.out,Only.refl _ _⟩
       case round=>
        obtain⟨q,hq,rfl,HO⟩:=hrel
        clear HOWc
        obtain⟨k0,k1,-,-⟩:=box_cells ((HO.out.2.rest Bn (Array.getElem?_eq_some_iff.1 HBX.out).1 hBQ).trans HBX.out)
        by_cases hlt3:q<LL
        · have hqi:(q:Int)<(LL:Int):=by omega
          have hqL:q<L.length:=by rw[←HLL.out];exact hlt3
          obtain⟨-,(hnil|⟨sb,cs,fr,e1,e2,e3,e5⟩)⟩:=HSY.out
          · simp only at hnil;rw[hnil] at hqL;simp at hqL
          simp only at e1 e5
          subst e1
          obtain⟨z,hz⟩:∃z,z=L[q]:=⟨_,rfl⟩
          have hzk:z<k:=by rw[hz];exact HRG.out _ (List.getElem_mem hqL)
          have hzi:(z:Int)<(k:Int):=by omega
          have hsbQ:sb≠w.heap.size:=by omega
          have c3:wr.cell? ⟨sb,q,none⟩=some (.int .i64 (z:Int)):=by
           have e6:=(HO.out.2.rest sb (Array.getElem?_eq_some_iff.1 e3).1 hsbQ).trans e3
           have:=e5 q hqL
           simp[World.cell?,e6,this,hz]
          obtain⟨V,hV⟩:∃V,V=f z+(L.take q).count z:=⟨_,rfl⟩
          have hVb:V≤2000:=by
           have h1:=HFB.out z hzk
           have h2:(L.take q).count z≤(L.take q).length:=List.count_le_length
           rw[List.length_take] at h2
           omega
          obtain⟨o1,o2⟩:=HO.out.1.2 z hzk
          have o1':wr.cell? ⟨w.heap.size,z,none⟩=some (.int .i64 (V:Int)):=by rw[hV];exact o1
          have HO2:Hid (Own (wr.setCell ⟨w.heap.size,z,none⟩ (.int .i64 ((V:Int)+1))) w.heap.size k (fun i=>((f i+(L.take (q+1)).count i:Nat):Int))∧Only w.heap.size wc (wr.setCell ⟨w.heap.size,z,none⟩ (.int .i64 ((V:Int)+1)))):=by
           have hcnt:∀i,(L.take (q+1)).count i=(L.take q).count i+if i=z then 1 else 0:=fun i=>by
            rw[List.take_succ_eq_append_getElem hqL,List.count_append,←hz,List.count_singleton]
            congr 1
            by_cases e:i=z
            · subst e;simp
            have:¬z=i:=fun e'=>e e'.symm
            simp[e,this]
           refine⟨own_set _ HO.out.1 hzk ?_ (fun i _ hi=>?_),HO.out.2.trans (Only.own _ _ _ _)⟩
           · rw[hcnt z,if_pos rfl,←Nat.add_assoc,←hV];rfl
           rw[hcnt i,if_neg hi];rfl
          clear hz hV HO e2 e3 e5 o1
          go_wp2_with fail
          go_still_tail 16,(by kernel_rfl)
          repeat still_step
          try refine wpStill_nil ?_
          all_goals go_wp2_with fail
          all_goals
           go_roundw
           case rel=>exact⟨q+1,by omega,by go_num,HO2.out.1,⟨⟨HO2.out.2.below.os,HO2.out.2.below.tape,HO2.out.2.below.output,HO2.out.2.below.size,HO2.out.2.below.block⟩,HO2.out.2.rest⟩⟩
           case measure=>simp[intOf];omega
        have hqi:¬(q:Int)<(LL:Int):=by omega
        obtain rfl:q=LL:=by omega
        obtain⟨w18,hw18⟩:∃w18,wr=w18:=⟨_,rfl⟩
        have HO18:Hid (Own wr w.heap.size k (fun i=>((f i+L.count i:Nat):Int))):=by
         have:=HO.out.1
         rw[List.take_of_length_le (by rw[←HLL.out];exact Nat.le_refl _)] at this
         exact this
        have HN18:Hid (Nodes w.heap.size (w.heap.size+1) wr (.slice (some ⟨g,0,none⟩) M c5) ((ps.map (fun p:Cf.Nd=>p.1)).map (fun x=>x.1)) ss):=HNDc.out.same (fun j hj hQ=>HO.out.2.rest j hj (by omega))
        have HB18:Hid (Below w.heap.size w wr∧w.heap.size<wr.heap.size):=⟨HBLc.out.1.trans HO.out.2.below,Nat.lt_of_lt_of_le HBLc.out.2 HO.out.2.below.size⟩
        have HX18:Hid (wr.heap[Bn]?=some (.cells #[.int .i64 (WT:Int),.slice sa q sc] 166 (0,0))):=(HO.out.2.rest Bn (Array.getElem?_eq_some_iff.1 HBX.out).1 hBQ).trans HBX.out
        have HS18:Hid (SymRow w.heap.size wr (sa,sc,L)):=HSY.out.low (fun j hj hQ=>HO.out.2.rest j hj (by omega))
        have hsl:ss.length=ps.length:=by have:=congrArg List.length HST.out.2.2.2.1;rw[List.length_map,List.length_map] at this;exact this
        have HN0:Hid (Nodes w.heap.size wr.heap.size (wr.alloc (.cells #[] 166)) (.slice (some ⟨wr.heap.size,0,none⟩) 0 0) [] []):=nodes_none w.heap.size wr HB18.out.2
        clear HO HNDc HBLc HBX HSY HRG HFB hw18
        go_wp2_with fail
        clear k0 k1
        generalize hgw2:wr=v18 at*
        clear hgw2
        go_loopw [10,11] (fun v i wr=>∃(j R:Nat) (a6:Option Addr) (c6:Nat) (rs:List Cf.Nd) (ts:List Sy),j≤M∧R≤j∧i=.int .i64 (j:Int)∧v=.slice a6 R c6∧Hid (rs.length=R∧rs++Cf.wo x y (ps.drop j) j=Cf.wo x y ps 0∧ts++Cf.wo x y (ss.drop j) j=Cf.wo x y ss 0∧Nodes w.heap.size v18.heap.size wr (.slice a6 R c6) ((rs.map (fun p:Cf.Nd=>p.1)).map (fun x=>x.1)) ts∧Below v18.heap.size v18 wr)) (fun _ i _=>M-(intOf i).toNat)
        case atStart=>exact⟨0,0,_,_,[],[],Nat.zero_le _,Nat.zero_le _,rfl,rfl,rfl,rfl,rfl,HN0.out,(Below.refl _ _).alloc (Nat.le_refl _) _⟩
        case round=>
         obtain⟨j,R,a6,c6,rs,ts,hj,hRj,rfl,rfl,HR⟩:=hrel
         clear HN0
         by_cases hlt4:j<M
         · have hji:(j:Int)<(M:Int):=by omega
           have hjp:j<ps.length:=by rw[HST.out.1];exact hlt4
           have hjs:j<ss.length:=by omega
           have hdp:ps.drop j=ps[j]::ps.drop (j+1):=List.drop_eq_getElem_cons hjp
           have hds:ss.drop j=ss[j]::ss.drop (j+1):=List.drop_eq_getElem_cons hjs
           by_cases hsk:j=x∨j=y
           · have HR2:Hid (rs.length=R∧rs++Cf.wo x y (ps.drop (j+1)) (j+1)=Cf.wo x y ps 0∧ts++Cf.wo x y (ss.drop (j+1)) (j+1)=Cf.wo x y ss 0∧Nodes w.heap.size v18.heap.size wr (.slice a6 R c6) ((rs.map (fun p:Cf.Nd=>p.1)).map (fun x=>x.1)) ts∧Below v18.heap.size v18 wr):=by
              obtain⟨r1,r2,r3,r4,r5⟩:=HR.out
              rw[hdp,Cf.wo_cons,if_pos (by rcases hsk with e|e<;>simp[e])] at r2
              rw[hds,Cf.wo_cons,if_pos (by rcases hsk with e|e<;>simp[e])] at r3
              exact⟨r1,r2,r3,r4,r5⟩
             clear HR hdp hds
             by_cases e:j=x
             · have t1:((j:Int) != (x:Int))=false:=by simp[e]
               have t2:(j:Int)=(x:Int):=by omega
               go_wp2_with fail
               go_roundw
               case rel=>exact⟨j+1,R,a6,c6,rs,ts,by omega,by omega,by go_num,rfl,HR2⟩
               case measure=>simp[intOf];omega
             have e2:j=y:=by omega
             have t1:((j:Int) != (x:Int))=true:=by simp;omega
             have t2:((j:Int) != (y:Int))=false:=by simp[e2]
             have t3:¬(j:Int)=(x:Int):=by omega
             have t4:(j:Int)=(y:Int):=by omega
             go_wp2_with fail
             go_roundw
             case rel=>exact⟨j+1,R,a6,c6,rs,ts,by omega,by omega,by go_num,rfl,HR2⟩
             case measure=>simp[intOf];omega
           obtain⟨r1,r2,r3,r4,r5⟩:=HR.out
           rw[hdp,Cf.wo_cons,if_neg (by simp;omega)] at r2
           rw[hds,Cf.wo_cons,if_neg (by simp;omega)] at r3
           obtain⟨g',hg',cj0,cj1,hsj⟩:=HN18.out.at (i:=j) (by rw[List.length_map,List.length_map];exact hjp)
           cases hg'
           simp only[List.getElem_map] at cj0
           obtain⟨aj,cj,lj,hsJ⟩:∃aj cj lj,ss[j]=(aj,cj,lj):=⟨_,_,_,rfl⟩
           rw[hsJ] at cj1 hsj r3
           obtain⟨WJ,hWJ⟩:∃WJ,WJ=ps[j].1.1:=⟨_,rfl⟩
           rw[←hWJ] at cj0
           have hglt:g<v18.heap.size:=World.block_lt_of_cell? _ _ cj0
           have d0:wr.cell? ⟨g,j*2,none⟩=some (.int .i64 (WJ:Int)):=(r5.cell (p:=⟨g,j*2,none⟩) hglt).trans cj0
           have d1:wr.cell? ⟨g,j*2+1,none⟩=some (.slice aj lj.length cj):=(r5.cell (p:=⟨g,j*2+1,none⟩) hglt).trans cj1
           have HSJ:Hid (SymRow w.heap.size wr (aj,cj,lj)):=hsj.low (fun i hi _=>r5.block i hi)
           have HRN:Hid (Nodes w.heap.size v18.heap.size wr (.slice a6 R c6) ((rs.map (fun p:Cf.Nd=>p.1)).map (fun x=>x.1)) ts):=r4
           have HRL:Hid (((rs.map (fun p:Cf.Nd=>p.1)).map (fun x=>x.1)).length=R):=by show _=_;rw[List.length_map,List.length_map];exact r1
           have HRR:Hid ((rs++[ps[j]])++Cf.wo x y (ps.drop (j+1)) (j+1)=Cf.wo x y ps 0∧(ts++[(aj,cj,lj)])++Cf.wo x y (ss.drop (j+1)) (j+1)=Cf.wo x y ss 0∧Below v18.heap.size v18 wr∧rs.length=R∧WJ=ps[j].1.1):=⟨by rw[List.append_assoc];exact r2,by rw[List.append_assoc];exact r3,r5,r1,hWJ⟩
           have t1:((j:Int) != (x:Int))=true:=by simp;omega
           have t2:((j:Int) != (y:Int))=true:=by simp;omega
           have t3:¬(j:Int)=(x:Int):=by omega
           have t4:¬(j:Int)=(y:Int):=by omega
           have hsz:=r5.size
           clear r1 r2 r3 r4 r5 hdp hds hsj hsJ cj0 cj1 HR hWJ hsk
           go_wp2_with (at_builtin;refine wpList_appN wr (by rfl) _ _ (by rfl) w.heap.size v18.heap.size _ _ ts WJ R (aj,cj,lj) (by rfl) HRN.out HRL.out HSJ.out wr.heap.size rfl (by rfl) (by omega) hsz ?_)
           intro g2 cap2 w' hn' _ hb'
           have HR2:Hid ((rs++[ps[j]]).length=R+1∧(rs++[ps[j]])++Cf.wo x y (ps.drop (j+1)) (j+1)=Cf.wo x y ps 0∧(ts++[(aj,cj,lj)])++Cf.wo x y (ss.drop (j+1)) (j+1)=Cf.wo x y ss 0∧Nodes w.heap.size v18.heap.size w' (.slice (some ⟨g2,0,none⟩) (R+1) cap2) (((rs++[ps[j]]).map (fun p:Cf.Nd=>p.1)).map (fun x=>x.1)) (ts++[(aj,cj,lj)])∧Below v18.heap.size v18 w'):=by
            refine⟨by rw[List.length_append,HRR.out.2.2.2.1];rfl,HRR.out.1,HRR.out.2.1,?_,HRR.out.2.2.1.trans hb'⟩
            rw[List.map_append,List.map_append,List.map_map]
            have e:(List.map (fun x:Cf.Wt=>x.1) (List.map (fun p:Cf.Nd=>p.1) [ps[j]]))=[WJ]:=by rw[HRR.out.2.2.2.2];rfl
            rw[e]
            exact hn'
           clear hn' hb' HRN HRL HSJ HRR d0 d1
           go_wp2_with fail
           go_roundw
           case rel=>exact⟨j+1,R+1,_,_,_,_,by omega,by omega,by go_num,rfl,HR2⟩
           case measure=>simp[intOf];omega
         have hji:¬(j:Int)<(M:Int):=by omega
         obtain rfl:j=M:=by omega
         obtain⟨r1,r2,r3,r4,r5⟩:=HR.out
         rw[List.drop_of_length_le (by rw[HST.out.1];exact Nat.le_refl _)] at r2
         rw[List.drop_of_length_le (by rw[hsl,HST.out.1];exact Nat.le_refl _)] at r3
         rw[show Cf.wo x y ([]:List Cf.Nd) j=[] from rfl,List.append_nil] at r2
         rw[show Cf.wo x y ([]:List Sy) j=[] from rfl,List.append_nil] at r3
         have hBlt:Bn<v18.heap.size:=(Array.getElem?_eq_some_iff.1 HX18.out).1
         have HLL2:q=L.length:=HLL.out
         obtain⟨k0,k1,-,-⟩:=box_cells ((r5.block Bn hBlt).trans HX18.out)
         have k1':wr.cell? ⟨Bn,1,none⟩=some (.slice sa L.length sc):=by rw[←HLL2];exact k1
         have HSJ:Hid (SymRow w.heap.size wr (sa,sc,L)):=HS18.out.low (fun i hi _=>r5.block i hi)
         have HRN:Hid (Nodes w.heap.size v18.heap.size wr (.slice a6 R c6) ((rs.map (fun p:Cf.Nd=>p.1)).map (fun x=>x.1)) ts):=r4
         have HRL:Hid (((rs.map (fun p:Cf.Nd=>p.1)).map (fun x=>x.1)).length=R):=by show _=_;rw[List.length_map,List.length_map];exact r1
         have hxy:=HST.out.2.2.2.2.2.2.1
         have hR2:R+2=j:=by
          have:=Cf.wo_len0 hxy ps hxl hyl
          rw[←r2,r1,HST.out.1] at this
          exact this
         have HRR:Hid (rs=Cf.wo x y ps 0∧ts=Cf.wo x y ss 0∧Below v18.heap.size v18 wr∧rs.length=R):=⟨r2,r3,r5,r1⟩
         have hsz:=r5.size
         clear r1 r2 r3 r4 r5 HR HLL2 k1
         go_wp2_with (at_builtin;refine wpList_appN wr (by rfl) _ _ (by rfl) w.heap.size v18.heap.size _ _ ts WT R (sa,sc,L) (by rfl) HRN.out HRL.out HSJ.out wr.heap.size rfl (by rfl) (by omega) hsz ?_)
         intro g2 cap2 w' hn' _ hb'
         have HEND:Hid ((Cf.next ps x y ps[x] ps[y]).length=R+1∧InvE zs k (Cf.next ps x y ps[x] ps[y]) (fun i=>f i+L.count i)∧Cf.fin ((Cf.next ps x y ps[x] ps[y]).map (fun p:Cf.Nd=>p.1))=Cf.fin ((Cf.init zs k).map (fun p:Cf.Nd=>p.1))∧TrS w k (Cf.next ps x y ps[x] ps[y]) (fun i=>f i+L.count i) (.slice (some ⟨g2,0,none⟩) (R+1) cap2) w'):=by
          obtain⟨s1,s2,s3,s4,_,_,s7,s8,s9⟩:=HST.out
          have hex:ps[x]?=some ps[x]:=List.getElem?_eq_getElem hxl
          have hey:ps[y]?=some ps[y]:=List.getElem?_eq_getElem hyl
          have hLe:L=ps[x].2++ps[y].2:=HPL.out
          have hnx:Cf.next ps x y ps[x] ps[y]=rs++[((WT,1+Nat.max ps[x].1.2 ps[y].1.2),L)]:=by
           unfold Cf.next
           rw[HRR.out.1,hLe,HPX.out.2.2]
          refine⟨by rw[hnx,List.length_append,HRR.out.2.2.2];rfl,by rw[hLe];exact s2.next hex hey hxy s8 s9,?_,⟨ts++[(sa,sc,L)],?_,?_⟩,own_low HO18.out (HRR.out.2.2.1.trans hb') HB18.out.2,HB18.out.1.trans ((HRR.out.2.2.1.trans hb').mono (Nat.le_of_lt HB18.out.2)),Nat.lt_of_lt_of_le HB18.out.2 (HRR.out.2.2.1.trans hb').size⟩
          · rw[Cf.next_ns s8 s9 hex hey,←Cf.fin_step (by rw[List.length_map];omega)];exact s3
          · rw[hnx,List.map_append,List.map_append,HRR.out.1,HRR.out.2.1,Cf.wo_map,Cf.wo_map,s4];rfl
          refine Nodes.lower ?_ (show w.heap.size+1≤v18.heap.size by have:=HB18.out.2;omega) (by omega)
          rw[hnx,List.map_append,List.map_append,List.map_map]
          exact hn'
         clear hn' hb' HRN HRL HSJ HRR k0 k1'
         go_wp2_with fail
         go_roundw
         case rel=>exact⟨_,_,R+1,_,_,rfl,by omega,HEND⟩
         case measure=>show R+1<j;omega
    have hgi:¬(1:Int)<(M:Int):=by omega
    have HF:Hid (TrEndX w k zs (.returned (.slice (some ⟨w.heap.size,0,none⟩) k k)) wr):=by
     obtain⟨h1,h2,h3,_,h5,h6,_⟩:=HP.out
     refine⟨⟨rfl,f,h5,h2.ex.end (by omega),fun i hi=>?_⟩,h6⟩
     rw[HDEEP.out,←h3]
     exact h2.toInv.end (by omega) i hi
    clear HP
    go_wp2_with fail
    go_ret
    exact HF.out
end Go.Proofs.YtejebodgfoihkaaGreat
