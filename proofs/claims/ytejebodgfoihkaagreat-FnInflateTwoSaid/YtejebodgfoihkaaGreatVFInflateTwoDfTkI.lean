/- The packer of the program: it puts a token. -/
import Derived.Test.YtejebodgfoihkaaGreatKFInflateTwox0a
import Derived.Test.YtejebodgfoihkaaGreatKFInflateTwox6
namespace Go.Proofs.YtejebodgfoihkaaGreat
open Go.RowKit

structure Code1 (w:World) (B:Nat) (v:Value) (g n:Nat) (L:List Int):Prop where
 len:L.length=n
 le:n≤300
 lt:g<w.heap.size
 ne:g≠B
 far:v.ownBlock≠some g
 cell:∀s,s<n→w.cell? ⟨g,s*2,none⟩=some (.int .i64 (Cp.bit L s).1)∧w.cell? ⟨g,s*2+1,none⟩=some (.int .i64 (Cp.bit L s).2)
theorem Code1.gr {w w':World} {B g n:Nat} {v v':Value} {L:List Int} (h:Code1 w B v g n L) (k:Gr B v v' w w'):Code1 w' B v' g n L:=
 ⟨h.len,h.le,Nat.lt_of_lt_of_le h.lt k.size,h.ne,k.far h.lt h.far,fun s hs=>⟨(k.cell (a:=⟨g,s*2,none⟩) h.lt h.ne h.far).trans (h.cell s hs).1,(k.cell (a:=⟨g,s*2+1,none⟩) h.lt h.ne h.far).trans (h.cell s hs).2⟩⟩
theorem Code1.kept {w w':World} {B g n:Nat} {v:Value} {L:List Int} (h:Code1 w B v g n L) (k:Below w.heap.size w w'):Code1 w' B v g n L:=
 ⟨h.len,h.le,Nat.lt_of_lt_of_le h.lt k.size,h.ne,h.far,fun s hs=>⟨(k.cell (p:=⟨g,s*2,none⟩) h.lt).trans (h.cell s hs).1,(k.cell (p:=⟨g,s*2+1,none⟩) h.lt).trans (h.cell s hs).2⟩⟩
theorem PkDone.from {B N:Nat} {x1 x2 v v':Value} {l:List (Int×Int)} {w W0 w':World} (b0:Below w.heap.size w W0) (h:PkDone B x1 x2 v N l W0 v' w'):PkDone B x1 x2 v N l w v' w':=⟨h.1,h.2.1,h.2.2.os.trans b0.os,h.2.2.tape.trans b0.tape,h.2.2.output.trans b0.output,Nat.le_trans b0.size h.2.2.size,fun k h1 h2 h3=>(h.2.2.block k (Nat.lt_of_lt_of_le h1 b0.size) h2 h3).trans (b0.block k h1),fun k e=>by
 obtain⟨h1,h2⟩:=h.2.2.own k e
 refine⟨?_,h2⟩
 rcases h1 with h1|h1
 · exact .inl h1
 exact .inr (Nat.le_trans b0.size h1)⟩

set_option linter.unusedSimpArgs false in
set_option linter.unusedVariables false in
set_option maxHeartbeats 4000000 in
set_option maxRecDepth 20000 in
theorem token_pk (B N g1 n1 c1 g2 n2 c2:Nat) (t:Tk) (v:Value) (l:List (Int×Int)) (LS LD:List Int) (w:World) (hB:w.heap[B]?=some (.cells #[v,.slice (some ⟨g1,0,none⟩) n1 c1,.slice (some ⟨g2,0,none⟩) n2 c2] 41 (0,0))) (hO:OwnX w B v N l) (hN:N≤900000)
 (h1:Code1 w B v g1 n1 LS) (h2:Code1 w B v g2 n2 LD) (l1:286≤n1) (l2:30≤n2) (ht:Df.TkOk t):
 Calls Tryz.prog 29 #[.pointer (some ⟨B,0,none⟩),.agg #[.int .i64 t.1,.int .i64 t.2.1,.int .i64 t.2.2]] w (PkEnd B (.slice (some ⟨g1,0,none⟩) n1 c1) (.slice (some ⟨g2,0,none⟩) n2 c2) v (N+(Df.tok LS LD t).length) (l++Df.tok LS LD t) w):=by
 obtain⟨V0,Z,D,rfl⟩:∃V0 Z D,t=(V0,Z,D):=⟨_,_,_,rfl⟩
 dsimp only
 obtain⟨W0,hW0⟩:∃W0,W0=w.alloc (.cells #[.int .i64 V0,.int .i64 Z,.int .i64 D] 53):=⟨_,rfl⟩
 obtain⟨bx,hbx⟩:∃bx,bx=w.heap.size:=⟨_,rfl⟩
 have hBl:B<w.heap.size:=(Array.getElem?_eq_some_iff.1 hB).1
 have b0:Below w.heap.size w W0:=by rw[hW0];exact (Below.refl _ _).alloc (Nat.le_refl _) _
 have hB0:=(b0.block B hBl).trans hB
 have hs0:W0.heap.size=w.heap.size+1:=by rw[hW0];simp
 have s1:W0.cell? ⟨bx,0,none⟩=some (.int .i64 V0):=by rw[hW0,hbx,World.cell?_alloc_at _ _ _ _ rfl];rfl
 have s2:W0.cell? ⟨bx,1,none⟩=some (.int .i64 Z):=by rw[hW0,hbx,World.cell?_alloc_at _ _ _ _ rfl];rfl
 have s3:W0.cell? ⟨bx,2,none⟩=some (.int .i64 D):=by rw[hW0,hbx,World.cell?_alloc_at _ _ _ _ rfl];rfl
 have hbo:v.ownBlock≠some bx:=fun e=>by have:=(World.ownsRow.lt (show World.ownsRow _ _ _ _ _ _ _ from hO.1) bx e).2;omega
 have HPK:Hid (W0.heap[B]?=some (.cells #[v,.slice (some ⟨g1,0,none⟩) n1 c1,.slice (some ⟨g2,0,none⟩) n2 c2] 41 (0,0))∧OwnX W0 B v N l):=⟨hB0,OwnX.below hO b0⟩
 have HC1:Hid (Code1 W0 B v g1 n1 LS):=h1.kept b0
 have HC2:Hid (Code1 W0 B v g2 n2 LD):=h2.kept b0
 have HG0:Hid (Below w.heap.size w W0):=b0
 have hl1b:=h1.le
 have hl2b:=h2.le
 obtain⟨pc0,pc1,pc2,_,_,_⟩:=pk_cell hB0
 have hBW:B<W0.heap.size:=by omega
 have hbW:bx<W0.heap.size:=by omega
 have hgW1:g1<W0.heap.size:=HC1.out.lt
 have hgW2:g2<W0.heap.size:=HC2.out.lt
 have hbB:bx≠B:=by omega
 have HBO:Hid (v.ownBlock≠some bx):=hbo
 clear hB hO h1 h2 b0 hB0 hs0 hbo
 obtain⟨x1,hx1⟩:∃x1:Value,x1=.slice (some ⟨g1,0,none⟩) n1 c1:=⟨_,rfl⟩
 obtain⟨x2,hx2⟩:∃x2:Value,x2=.slice (some ⟨g2,0,none⟩) n2 c2:=⟨_,rfl⟩
 rcases ht with⟨hz0,hv0,hv1⟩|⟨hz3,hz258,hd1,hd5⟩
 · obtain⟨V,rfl⟩:=Int.eq_ofNat_of_zero_le hv0
   dsimp only at hz0 hv1
   subst hz0
   have hVn:V<n1:=by omega
   have hVi:(V:Int)<(n1:Int):=by omega
   obtain⟨k1,k2⟩:=HC1.out.cell V hVn
   have hT:Df.tok LS LD ((V:Int),0,D)=[((Cp.bit LS V).1,(Cp.bit LS V).2)]:=rfl
   rw[hT]
   show Calls Tryz.prog _ _ _ (PkEnd B _ _ v (N+1) _ w)
   generalize (Cp.bit LS V).1=u1 at*
   generalize (Cp.bit LS V).2=u2 at*
   clear hT
   rw[←hx1,←hx2] at HPK ⊢
   go_enter Tryz.func29,Tryz.ntmps29
   go_wp2_with fail
   rw[←hW0,←hbx]
   clear hW0 hbx
   refine wp_region_any (by kernel_rfl) ?_
   refine wpAny_take (i:=0) (v:=(.pointer (some ⟨B,0,none⟩))) rfl (by kernel_rfl) (by kernel_rfl) (by kernel_rfl) (fun _ _ _ h=>h) (Or.inl ⟨by rfl,?_⟩) ?_
   · intro wy
     go_simp
   try simp only[Act.put,litE]
   refine wpAny_told (S:=(fun wz=>Below W0.heap.size W0 wz)) [0] 14 42 [.is (.pointer (some ⟨B,0,none⟩)),.is (.pointer (some ⟨B,0,none⟩)),.is (.pointer (some ⟨B,0,none⟩)),.is (.pointer (some ⟨B,0,none⟩)),.is (v),.is (.pointer (some ⟨B,0,none⟩)),.is (.pointer (some ⟨B,0,none⟩)),.is (.pointer (some ⟨B,1,none⟩)),.is (.slice (some ⟨g1,0,none⟩) n1 c1),.is (.pointer (some ⟨bx,0,none⟩)),.is (.int .i64 (V:Int)),.is (.pointer (some ⟨g1,V*2,none⟩)),.is (.agg #[.int .i64 u1,.int .i64 u2]),.own (fun v w=>LayPs v w [(u1,u2)]) (fun _ _ _ b h=>h.kept b)] (fun j=>if j=0 then (.pointer (some ⟨B,0,none⟩)) else undef) (by kernel_rfl) (by kernel_rfl) (by kernel_rfl) (by kernel_rfl) (by kernel_rfl) (by rfl) (fun _ _ _ _ hd h=>⟨hd.trans h.1,h.2⟩) (by kernel_rfl) (fun j hj=>by simp only[List.mem_cons,List.not_mem_nil,or_false] at hj;rcases hj with rfl<;>rfl) (fun vs=>by simp only[puts,List.getElem?_toArray,List.getElem?_cons_succ,List.getElem?_cons_zero,Option.bind_some,Act.put,List.setIfInBounds_toArray,List.set_cons_zero,List.set_cons_succ];exact rfl) ((Below.refl _ _).drew) ?_ ?_
   · refine TellsFrom.cons rfl (fun vs wz hS hd K hK=>?_) ?_
     · try dsimp only at hK ⊢
       try simp only[Act.put,litE]
       go_simp
       exact hK.out _ _ hS (Below.refl _ _) rfl
     refine TellsFrom.cons rfl (fun vs wz hS hd K hK=>?_) ?_
     · try dsimp only at hK ⊢
       try simp only[Act.put,litE]
       go_simp
       exact hK.out _ _ hS (Below.refl _ _) rfl
     refine TellsFrom.cons rfl (fun vs wz hS hd K hK=>?_) ?_
     · try dsimp only at hK ⊢
       have h1:vs 1=(.pointer (some ⟨B,0,none⟩)):=hd 1 (by kernel_rfl)
       generalize vs 1=x1 at*
       subst h1
       try simp only[Act.put,litE]
       go_simp
       exact hK.out _ _ hS (Below.refl _ _) rfl
     refine TellsFrom.cons rfl (fun vs wz hS hd K hK=>?_) ?_
     · try dsimp only at hK ⊢
       have h2:vs 2=(.pointer (some ⟨B,0,none⟩)):=hd 2 (by kernel_rfl)
       generalize vs 2=x2 at*
       subst h2
       try simp only[Act.put,litE]
       go_simp
       exact hK.out _ _ hS (Below.refl _ _) rfl
     refine TellsFrom.cons rfl (fun vs wz hS hd K hK=>?_) ?_
     · try dsimp only at hK ⊢
       have h3:vs 3=(.pointer (some ⟨B,0,none⟩)):=hd 3 (by kernel_rfl)
       generalize vs 3=x3 at*
       subst h3
       try simp only[Act.put,litE]
       have q0:=(hS.cell (p:=⟨B,0,none⟩) hBW).trans pc0
       go_simp
       exact hK.out _ _ hS (Below.refl _ _) rfl
     refine TellsFrom.cons rfl (fun vs wz hS hd K hK=>?_) ?_
     · try dsimp only at hK ⊢
       try simp only[Act.put,litE]
       go_simp
       exact hK.out _ _ hS (Below.refl _ _) rfl
     refine TellsFrom.cons rfl (fun vs wz hS hd K hK=>?_) ?_
     · try dsimp only at hK ⊢
       have h5:vs 5=(.pointer (some ⟨B,0,none⟩)):=hd 5 (by kernel_rfl)
       generalize vs 5=x5 at*
       subst h5
       try simp only[Act.put,litE]
       go_simp
       exact hK.out _ _ hS (Below.refl _ _) rfl
     refine TellsFrom.cons rfl (fun vs wz hS hd K hK=>?_) ?_
     · try dsimp only at hK ⊢
       have h6:vs 6=(.pointer (some ⟨B,0,none⟩)):=hd 6 (by kernel_rfl)
       generalize vs 6=x6 at*
       subst h6
       try simp only[Act.put,litE]
       go_simp
       exact hK.out _ _ hS (Below.refl _ _) rfl
     refine TellsFrom.cons rfl (fun vs wz hS hd K hK=>?_) ?_
     · try dsimp only at hK ⊢
       have h7:vs 7=(.pointer (some ⟨B,1,none⟩)):=hd 7 (by kernel_rfl)
       generalize vs 7=x7 at*
       subst h7
       try simp only[Act.put,litE]
       have q0:=(hS.cell (p:=⟨B,1,none⟩) hBW).trans pc1
       go_simp
       exact hK.out _ _ hS (Below.refl _ _) rfl
     refine TellsFrom.cons rfl (fun vs wz hS hd K hK=>?_) ?_
     · try dsimp only at hK ⊢
       try simp only[Act.put,litE]
       go_simp
       exact hK.out _ _ hS (Below.refl _ _) rfl
     refine TellsFrom.cons rfl (fun vs wz hS hd K hK=>?_) ?_
     · try dsimp only at hK ⊢
       have h9:vs 9=(.pointer (some ⟨bx,0,none⟩)):=hd 9 (by kernel_rfl)
       generalize vs 9=x9 at*
       subst h9
       try simp only[Act.put,litE]
       have q0:=(hS.cell (p:=⟨bx,0,none⟩) hbW).trans s1
       go_simp
       exact hK.out _ _ hS (Below.refl _ _) rfl
     refine TellsFrom.cons rfl (fun vs wz hS hd K hK=>?_) ?_
     · try dsimp only at hK ⊢
       have h8:vs 8=(.slice (some ⟨g1,0,none⟩) n1 c1):=hd 8 (by kernel_rfl)
       generalize vs 8=x8 at*
       subst h8
       have h10:vs 10=(.int .i64 (V:Int)):=hd 10 (by kernel_rfl)
       generalize vs 10=x10 at*
       subst h10
       try simp only[Act.put,litE]
       go_simp
       exact hK.out _ _ hS (Below.refl _ _) rfl
     refine TellsFrom.cons rfl (fun vs wz hS hd K hK=>?_) ?_
     · try dsimp only at hK ⊢
       have h11:vs 11=(.pointer (some ⟨g1,V*2,none⟩)):=hd 11 (by kernel_rfl)
       generalize vs 11=x11 at*
       subst h11
       try simp only[Act.put,litE]
       have q0:=(hS.cell (p:=⟨g1,V*2,none⟩) hgW1).trans k1
       have q1:=(hS.cell (p:=⟨g1,V*2+1,none⟩) hgW1).trans k2
       go_simp
       exact hK.out _ _ hS (Below.refl _ _) rfl
     refine TellsFrom.cons rfl (fun vs wz hS hd K hK=>?_) ?_
     · try dsimp only at hK ⊢
       have h12:vs 12=(.agg #[.int .i64 u1,.int .i64 u2]):=hd 12 (by kernel_rfl)
       generalize vs 12=x12 at*
       subst h12
       try simp only[Act.put,litE]
       go_simp
       exact hK.out _ _ (hS.trans (((Below.refl _ _).alloc (Nat.le_refl _) _).mono hS.size)) ((Below.refl _ _).alloc (Nat.le_refl _) _) (layPs_new wz [(u1,u2)])
     exact TellsFrom.nil
   intro vs wz hS hd
   try dsimp only
   have h12:LayPs (vs 13) wz [(u1,u2)]:=hd 13 (by omega)
   have h0:vs 0=.pointer (some ⟨B,0,none⟩):=hd 0 (by omega)
   have h4:vs 4=v:=hd 4 (by omega)
   clear hd
   generalize vs 0=y0 at*
   generalize vs 1=y1 at*
   generalize vs 2=y2 at*
   generalize vs 3=y3 at*
   generalize vs 4=y4 at*
   generalize vs 5=y5 at*
   generalize vs 6=y6 at*
   generalize vs 7=y7 at*
   generalize vs 8=y8 at*
   generalize vs 9=y9 at*
   generalize vs 10=y10 at*
   generalize vs 11=y11 at*
   generalize vs 12=y12 at*
   generalize vs 13=y13 at*
   subst h0
   replace h4:=h4.symm
   subst h4
   obtain⟨Bn,rfl,hCl,hCn⟩:=h12
   have HS1:Hid (Below W0.heap.size W0 wz):=hS
   clear hS
   refine wpAnyH_ready (rs:=[14]) (by kernel_rfl) (by simp) ?_
   refine AllReadyH.cons rfl (fun K hK=>?_) AllReadyH.nil
   refine step_appL wz rfl _ _ rfl 0 v N l [(u1,u2)] Bn 1 rfl (by omega) rfl (OwnP.below HPK.out.2.1 HS1.out) rfl hCn (by omega) (Nat.zero_le _) ?_
   intro g2 cap2 w2 ho2 hg2 hat2 hlt2
   have HD:Hid (PkDone B x1 x2 v (N+1) (l++[(u1,u2)]) W0 (.slice (some ⟨g2,0,none⟩) (N+1) cap2) (w2.setCell ⟨B,0,none⟩ (.slice (some ⟨g2,0,none⟩) (N+1) cap2))):=pk_done HPK.out.1 HPK.out.2 HS1.out hg2 hat2 hlt2 ho2
   obtain⟨pc2,pf2⟩:=pk_at2 HPK.out.1 HPK.out.2 HS1.out hg2
   clear ho2 hg2 hat2 hlt2
   refine hK.out _ _ trivial (fun _=>?_)
   clear hK K
   try simp only[Act.put,litE]
   refine tkI (i:=15) (v:=.pointer (some ⟨B,0,none⟩)) rfl (Or.inl ⟨by rfl,?_⟩) trivial ?_
   · intro wy _
     go_simp
   try simp only[Act.put,litE]
   refine tkI (i:=16) (v:=.pointer (some ⟨B,0,none⟩)) rfl (Or.inl ⟨by rfl,?_⟩) trivial ?_
   · intro wy _
     go_simp
   try simp only[Act.put,litE]
   refine wpAnyH_ready (rs:=[17]) (by kernel_rfl) (by simp) ?_
   refine AllReadyH.cons rfl (fun K hK=>?_) AllReadyH.nil
   go_simp
   refine hK.out _ _ trivial (fun _=>?_)
   clear hK K
   refine wpAnyH_done (by kernel_rfl) ?_ _
   try simp only[Act.put,litE]
   go_wp2_with fail
   go_end0
   exact⟨⟨_,rfl⟩,_,PkDone.from HG0.out HD.out⟩
 obtain⟨X,rfl⟩:=Int.eq_ofNat_of_zero_le (show 0≤Z by dsimp only at hz3;omega)
 obtain⟨Y,rfl⟩:=Int.eq_ofNat_of_zero_le (show 0≤D by dsimp only at hd1;omega)
 dsimp only at hz3 hz258 hd1 hd5
 have hX0:¬(X:Int)=0:=by omega
 have hXb:((X:Int)==0)=false:=beq_eq_false_iff_ne.2 hX0
 have hT:Df.tok LS LD (V0,(X:Int),(Y:Int))=[((Cp.bit LS (257+Df.szSym X)).1,(Cp.bit LS (257+Df.szSym X)).2),((Df.szBit X).1,(Df.szBit X).2)]++[((Cp.bit LD (Df.dsSym Y)).1,(Cp.bit LD (Df.dsSym Y)).2),((Df.dsBit Y).1,(Df.dsBit Y).2)]:=by
  unfold Df.tok
  rw[if_neg hX0]
  rfl
 rw[hT,←List.append_assoc]
 show Calls Tryz.prog _ _ _ (PkEnd B _ _ v (N+2+2) _ w)
 have hsl:=Df.szSym_lt X
 have hdl:=Df.dsSym_lt Y
 have HS5:Hid (∀w:World,Calls Tryz.prog 54 #[.int .i64 (X:Int)] w fun e w'=>e=.returned (signV (257+Df.szSym X) (Df.szBit X))∧Below w.heap.size w w'):=fun w=>sizeSign_any X (by omega) (by omega) w
 have HD5:Hid (∀w:World,Calls Tryz.prog 55 #[.int .i64 (Y:Int)] w fun e w'=>e=.returned (signV (Df.dsSym Y) (Df.dsBit Y))∧Below w.heap.size w w'):=fun w=>distSign_any Y (by omega) (by omega) w
 unfold signV at HS5 HD5
 obtain⟨SY,hSY⟩:∃SY,SY=257+Df.szSym X:=⟨_,rfl⟩
 obtain⟨DY,hDY⟩:∃DY,DY=Df.dsSym Y:=⟨_,rfl⟩
 rw[←hSY] at HS5 ⊢
 rw[←hDY] at HD5 ⊢
 have hSYn:SY<n1:=by omega
 have hDYn:DY<n2:=by omega
 obtain⟨k1,k2⟩:=HC1.out.cell SY hSYn
 generalize (Df.szBit X).1=z1 at*
 generalize (Df.szBit X).2=z2 at*
 generalize (Df.dsBit Y).1=dz1 at*
 generalize (Df.dsBit Y).2=dz2 at*
 generalize (Cp.bit LS SY).1=u1 at*
 generalize (Cp.bit LS SY).2=u2 at*
 have HC2':Hid (w.heap.size≤w.heap.size):=Nat.le_refl _
 obtain⟨r1,hr1⟩:∃r1,r1=(Cp.bit LD DY).1:=⟨_,rfl⟩
 obtain⟨r2,hr2⟩:∃r2,r2=(Cp.bit LD DY).2:=⟨_,rfl⟩
 rw[←hr1,←hr2]
 have HR:Hid (r1=(Cp.bit LD DY).1∧r2=(Cp.bit LD DY).2):=⟨hr1,hr2⟩
 clear hT hsl hdl hSY hDY hr1 hr2 hx1 hx2 HC2'
 go_enter Tryz.func29,Tryz.ntmps29
 go_wp2_with fail
 rw[←hW0,←hbx]
 clear hW0 hbx
 refine wp_region_told (S:=(fun wz=>Below W0.heap.size W0 wz)) 8 42 [.is (.pointer (some ⟨B,0,none⟩)),.is (.pointer (some ⟨bx,1,none⟩)),.is (.int .i64 (X:Int)),.is (.agg #[.int .i64 (SY:Int),.int .i64 z1,.int .i64 z2]),.is (.pointer (some ⟨B,0,none⟩)),.is (.pointer (some ⟨B,0,none⟩)),.is (.pointer (some ⟨B,1,none⟩)),.is (.slice (some ⟨g1,0,none⟩) n1 c1)] (by kernel_rfl) (by kernel_rfl) (by rfl) (fun _ _ _ _ hd h=>⟨hd.trans h.1,h.2⟩) (fun vs=>by simp only[puts,List.getElem?_toArray,List.getElem?_cons_succ,List.getElem?_cons_zero,Option.bind_some,Act.put,List.setIfInBounds_toArray,List.set_cons_zero,List.set_cons_succ];exact rfl) ((Below.refl _ _).drew) ?_ ?_
 · refine TellsFrom.cons rfl (fun vs wz hS hd K hK=>?_) ?_
   · try dsimp only at hK ⊢
     try simp only[Act.put,litE]
     go_simp
     exact hK.out _ _ hS (Below.refl _ _) rfl
   refine TellsFrom.cons rfl (fun vs wz hS hd K hK=>?_) ?_
   · try dsimp only at hK ⊢
     try simp only[Act.put,litE]
     go_simp
     exact hK.out _ _ hS (Below.refl _ _) rfl
   refine TellsFrom.cons rfl (fun vs wz hS hd K hK=>?_) ?_
   · try dsimp only at hK ⊢
     have h1:vs 1=(.pointer (some ⟨bx,1,none⟩)):=hd 1 (by kernel_rfl)
     generalize vs 1=x1 at*
     subst h1
     try simp only[Act.put,litE]
     have q0:=(hS.cell (p:=⟨bx,1,none⟩) hbW).trans s2
     go_simp
     exact hK.out _ _ hS (Below.refl _ _) rfl
   refine TellsFrom.cons rfl (fun vs wz hS hd K hK=>?_) ?_
   · try dsimp only at hK ⊢
     have h2:vs 2=(.int .i64 (X:Int)):=hd 2 (by kernel_rfl)
     generalize vs 2=x2 at*
     subst h2
     try simp only[Act.put,litE]
     go_simp
     refine (HS5.out _).mono ?_
     rintro e v1 ⟨rfl,b1⟩
     exact hK.out _ _ (hS.trans (b1.mono hS.size)) b1 rfl
   refine TellsFrom.cons rfl (fun vs wz hS hd K hK=>?_) ?_
   · try dsimp only at hK ⊢
     try simp only[Act.put,litE]
     go_simp
     exact hK.out _ _ hS (Below.refl _ _) rfl
   refine TellsFrom.cons rfl (fun vs wz hS hd K hK=>?_) ?_
   · try dsimp only at hK ⊢
     have h4:vs 4=(.pointer (some ⟨B,0,none⟩)):=hd 4 (by kernel_rfl)
     generalize vs 4=x4 at*
     subst h4
     try simp only[Act.put,litE]
     go_simp
     exact hK.out _ _ hS (Below.refl _ _) rfl
   refine TellsFrom.cons rfl (fun vs wz hS hd K hK=>?_) ?_
   · try dsimp only at hK ⊢
     have h5:vs 5=(.pointer (some ⟨B,0,none⟩)):=hd 5 (by kernel_rfl)
     generalize vs 5=x5 at*
     subst h5
     try simp only[Act.put,litE]
     go_simp
     exact hK.out _ _ hS (Below.refl _ _) rfl
   refine TellsFrom.cons rfl (fun vs wz hS hd K hK=>?_) ?_
   · try dsimp only at hK ⊢
     have h6:vs 6=(.pointer (some ⟨B,1,none⟩)):=hd 6 (by kernel_rfl)
     generalize vs 6=x6 at*
     subst h6
     try simp only[Act.put,litE]
     have q0:=(hS.cell (p:=⟨B,1,none⟩) hBW).trans pc1
     go_simp
     exact hK.out _ _ hS (Below.refl _ _) rfl
   exact TellsFrom.nil
 intro vs wz hS hd
 try dsimp only
 have h0:vs 0=.pointer (some ⟨B,0,none⟩):=hd 0 (by omega)
 have h3:vs 3=.agg #[.int .i64 (SY:Int),.int .i64 z1,.int .i64 z2]:=hd 3 (by omega)
 have h7:vs 7=.slice (some ⟨g1,0,none⟩) n1 c1:=hd 7 (by omega)
 clear hd
 generalize vs 0=y0 at*
 generalize vs 1=y1 at*
 generalize vs 2=y2 at*
 generalize vs 3=y3 at*
 generalize vs 4=y4 at*
 generalize vs 5=y5 at*
 generalize vs 6=y6 at*
 generalize vs 7=y7 at*
 subst h0
 subst h3
 subst h7
 have HS1:Hid (Below W0.heap.size W0 wz):=hS
 clear hS
 refine wpAnyH_ready (rs:=[8]) (by kernel_rfl) (by simp) ?_
 refine AllReadyH.cons rfl (fun K hK=>?_) AllReadyH.nil
 go_simp
 have k1':=(HS1.out.cell (p:=⟨g1,SY*2,none⟩) hgW1).trans k1
 have k2':=(HS1.out.cell (p:=⟨g1,SY*2+1,none⟩) hgW1).trans k2
 have hz:=HS1.out.size
 refine (sign_pk B SY N n1 c1 g1 u1 u2 z1 z2 v _ _ l wz ((HS1.out.block B hBW).trans HPK.out.1) (OwnX.below HPK.out.2 HS1.out) (by omega) (by omega) hSYn (by omega) k1' k2').mono ?_
 rintro e w2 ⟨⟨r,rfl⟩,v2,hD⟩
 have hD2:=PkDone.from HS1.out hD
 refine hK.out _ _ trivial (fun _=>?_)
 clear hK K
 try simp only[Act.put,litE]
 refine wpAnyH_done (by kernel_rfl) ?_ _
 try simp only[Act.put,litE]
 have HP2:Hid (w2.heap[B]?=some (.cells #[v2,.slice (some ⟨g1,0,none⟩) n1 c1,.slice (some ⟨g2,0,none⟩) n2 c2] 41 (0,0))∧OwnX w2 B v2 (N+2) (l++[(u1,u2),(z1,z2)])∧Gr B v v2 W0 w2):=hD2
 have hsz2:=hD2.2.2.size
 have hBW2:B<w2.heap.size:=by omega
 have hbW2:bx<w2.heap.size:=by omega
 have s32:=(hD2.2.2.cell (a:=⟨bx,2,none⟩) hbW hbB HBO.out).trans s3
 obtain⟨_,_,pc22,_,_,_⟩:=pk_cell hD2.1
 have hC22:=HC2.out.gr hD2.2.2
 obtain⟨m1,m2⟩:=hC22.cell DY hDYn
 rw[←HR.out.1] at m1
 rw[←HR.out.2] at m2
 have hgl2:=hC22.lt
 clear hD hD2 k1' k2' hz HS5 HC1 HC2 HS1 HR hC22 s1 s2 s3 pc0 pc1 pc2 k1 k2
 go_wp2_with fail
 refine wp_region_told (S:=(fun wz=>Below w2.heap.size w2 wz)) 8 42 [.is (.pointer (some ⟨B,0,none⟩)),.is (.pointer (some ⟨bx,2,none⟩)),.is (.int .i64 (Y:Int)),.is (.agg #[.int .i64 (DY:Int),.int .i64 dz1,.int .i64 dz2]),.is (.pointer (some ⟨B,0,none⟩)),.is (.pointer (some ⟨B,0,none⟩)),.is (.pointer (some ⟨B,2,none⟩)),.is (.slice (some ⟨g2,0,none⟩) n2 c2)] (by kernel_rfl) (by kernel_rfl) (by rfl) (fun _ _ _ _ hd h=>⟨hd.trans h.1,h.2⟩) (fun vs=>by simp only[puts,List.getElem?_toArray,List.getElem?_cons_succ,List.getElem?_cons_zero,Option.bind_some,Act.put,List.setIfInBounds_toArray,List.set_cons_zero,List.set_cons_succ];exact rfl) ((Below.refl _ _).drew) ?_ ?_
 · refine TellsFrom.cons rfl (fun vs wz hS hd K hK=>?_) ?_
   · try dsimp only at hK ⊢
     try simp only[Act.put,litE]
     go_simp
     exact hK.out _ _ hS (Below.refl _ _) rfl
   refine TellsFrom.cons rfl (fun vs wz hS hd K hK=>?_) ?_
   · try dsimp only at hK ⊢
     try simp only[Act.put,litE]
     go_simp
     exact hK.out _ _ hS (Below.refl _ _) rfl
   refine TellsFrom.cons rfl (fun vs wz hS hd K hK=>?_) ?_
   · try dsimp only at hK ⊢
     have h1:vs 1=(.pointer (some ⟨bx,2,none⟩)):=hd 1 (by kernel_rfl)
     generalize vs 1=x1 at*
     subst h1
     try simp only[Act.put,litE]
     have q0:=(hS.cell (p:=⟨bx,2,none⟩) hbW2).trans s32
     go_simp
     exact hK.out _ _ hS (Below.refl _ _) rfl
   refine TellsFrom.cons rfl (fun vs wz hS hd K hK=>?_) ?_
   · try dsimp only at hK ⊢
     have h2:vs 2=(.int .i64 (Y:Int)):=hd 2 (by kernel_rfl)
     generalize vs 2=x2 at*
     subst h2
     try simp only[Act.put,litE]
     go_simp
     refine (HD5.out _).mono ?_
     rintro e v1 ⟨rfl,b1⟩
     exact hK.out _ _ (hS.trans (b1.mono hS.size)) b1 rfl
   refine TellsFrom.cons rfl (fun vs wz hS hd K hK=>?_) ?_
   · try dsimp only at hK ⊢
     try simp only[Act.put,litE]
     go_simp
     exact hK.out _ _ hS (Below.refl _ _) rfl
   refine TellsFrom.cons rfl (fun vs wz hS hd K hK=>?_) ?_
   · try dsimp only at hK ⊢
     have h4:vs 4=(.pointer (some ⟨B,0,none⟩)):=hd 4 (by kernel_rfl)
     generalize vs 4=x4 at*
     subst h4
     try simp only[Act.put,litE]
     go_simp
     exact hK.out _ _ hS (Below.refl _ _) rfl
   refine TellsFrom.cons rfl (fun vs wz hS hd K hK=>?_) ?_
   · try dsimp only at hK ⊢
     have h5:vs 5=(.pointer (some ⟨B,0,none⟩)):=hd 5 (by kernel_rfl)
     generalize vs 5=x5 at*
     subst h5
     try simp only[Act.put,litE]
     go_simp
     exact hK.out _ _ hS (Below.refl _ _) rfl
   refine TellsFrom.cons rfl (fun vs wz hS hd K hK=>?_) ?_
   · try dsimp only at hK ⊢
     have h6:vs 6=(.pointer (some ⟨B,2,none⟩)):=hd 6 (by kernel_rfl)
     generalize vs 6=x6 at*
     subst h6
     try simp only[Act.put,litE]
     have q0:=(hS.cell (p:=⟨B,2,none⟩) hBW2).trans pc22
     go_simp
     exact hK.out _ _ hS (Below.refl _ _) rfl
   exact TellsFrom.nil
 intro vs wz hS hd
 try dsimp only
 have h0:vs 0=.pointer (some ⟨B,0,none⟩):=hd 0 (by omega)
 have h3:vs 3=.agg #[.int .i64 (DY:Int),.int .i64 dz1,.int .i64 dz2]:=hd 3 (by omega)
 have h7:vs 7=.slice (some ⟨g2,0,none⟩) n2 c2:=hd 7 (by omega)
 clear hd
 generalize vs 0=y0 at*
 generalize vs 1=y1 at*
 generalize vs 2=y2 at*
 generalize vs 3=y3 at*
 generalize vs 4=y4 at*
 generalize vs 5=y5 at*
 generalize vs 6=y6 at*
 generalize vs 7=y7 at*
 subst h0
 subst h3
 subst h7
 have HS1:Hid (Below w2.heap.size w2 wz):=hS
 clear hS
 refine wpAnyH_ready (rs:=[8]) (by kernel_rfl) (by simp) ?_
 refine AllReadyH.cons rfl (fun K hK=>?_) AllReadyH.nil
 go_simp
 have k1':=(HS1.out.cell (p:=⟨g2,DY*2,none⟩) hgl2).trans m1
 have k2':=(HS1.out.cell (p:=⟨g2,DY*2+1,none⟩) hgl2).trans m2
 have hz:=HS1.out.size
 refine (sign_pk B DY (N+2) n2 c2 g2 r1 r2 dz1 dz2 v2 _ _ (l++[(u1,u2),(z1,z2)]) wz ((HS1.out.block B hBW2).trans HP2.out.1) (OwnX.below HP2.out.2.1 HS1.out) (by omega) (by omega) hDYn (by omega) k1' k2').mono ?_
 rintro e w3 ⟨⟨r,rfl⟩,v3,hD⟩
 have hD3:=PkDone.from HS1.out hD
 have HF:Hid (PkDone B (.slice (some ⟨g1,0,none⟩) n1 c1) (.slice (some ⟨g2,0,none⟩) n2 c2) v (N+2+2) (l++[(u1,u2),(z1,z2)]++[(r1,r2),(dz1,dz2)]) w v3 w3):=PkDone.from HG0.out ⟨hD3.1,hD3.2.1,HP2.out.2.2.trans hD3.2.2⟩
 refine hK.out _ _ trivial (fun _=>?_)
 clear hK K hD hD3
 try simp only[Act.put,litE]
 refine wpAnyH_done (by kernel_rfl) ?_ _
 try simp only[Act.put,litE]
 go_wp2_with fail
 go_end0
 exact⟨⟨_,rfl⟩,_,HF.out⟩
end Go.Proofs.YtejebodgfoihkaaGreat
