/- How often each symbol comes, as the program counts. -/
import Derived.Test.YtejebodgfoihkaaGreatKFInflateTwox0a
import Derived.Test.YtejebodgfoihkaaGreatVFInflateTwoDfBodyI
import Derived.Test.YtejebodgfoihkaaGreatKFInflateTwox0
import Derived.Test.YtejebodgfoihkaaGreatVFInflateTwoRoundReg
import Derived.Test.YtejebodgfoihkaaGreatVFInflateTwoEachReg
import Derived.Test.YtejebodgfoihkaaGreatVFInflateTwoDfSignI
namespace Go.Proofs.YtejebodgfoihkaaGreat
open Go.RowKit Go.Shelf Go.Maps

attribute [local go_sem] Oper.semAt_some

theorem cell_lt {X:World} {b i:Nat} {v:Value} (h:X.cell? ⟨b,i,none⟩=some v):b<X.heap.size:=by
 rcases Nat.lt_or_ge b X.heap.size with h1|h1
 · exact h1
 simp[World.cell?,Array.getElem?_eq_none h1] at h
structure JOk (B1 B2 P1 P2:Nat) (w:World) (pre:List Tk) (W:World):Prop where
 r1:DRow W B1 (Df.cntS pre)
 r2:DRow W B2 (Df.cntD pre)
 p1:W.cell? ⟨P1,0,none⟩=some (.slice (some ⟨B1,0,none⟩) 286 286)
 p2:W.cell? ⟨P2,0,none⟩=some (.slice (some ⟨B2,0,none⟩) 30 30)
 low:Below w.heap.size w W
def JO (B1 B2 P1 P2:Nat) (w:World) (pre:List Tk) (_:Nat) (W:World):Prop:=JOk B1 B2 P1 P2 w pre W
theorem JOk.step {B1 B2 P1 P2:Nat} {w X Y:World} {pre:List Tk} (h:JOk B1 B2 P1 P2 w pre X) (h1:Y.heap[B1]?=X.heap[B1]?) (h2:Y.heap[B2]?=X.heap[B2]?) (h3:Y.heap[P1]?=X.heap[P1]?) (h4:Y.heap[P2]?=X.heap[P2]?) (hb:Below w.heap.size X Y):JOk B1 B2 P1 P2 w pre Y:=
 ⟨h.r1.kept h1,h.r2.kept h2,(World.cell?_of_block (w:=X) (a:=⟨P1,0,none⟩) h3).trans h.p1,(World.cell?_of_block (w:=X) (a:=⟨P2,0,none⟩) h4).trans h.p2,h.low.trans hb⟩
def OftIEnd (w:World) (l:List Tk) (e:Ending) (w':World):Prop:=(∃b1 b2,e=.returned (.tuple #[.slice (some ⟨b1,0,none⟩) 286 286,.slice (some ⟨b2,0,none⟩) 30 30])∧w.heap.size≤b1∧w.heap.size≤b2∧DRow w' b1 (Df.oftS l)∧DRow w' b2 (Df.cntD l))∧Below w.heap.size w w'

set_option linter.unusedSimpArgs false in
set_option linter.unusedVariables false in
set_option maxHeartbeats 4000000 in
set_option maxRecDepth 100000 in
theorem howOften_any (Bt:Nat) (fn:FuncId) (eg:Enters Tryz.prog fn) (l:List Tk) (H:World→Prop) (w:World) (hbt:Bt<w.heap.size) (hit:IterOk fn Bt l KpS H) (hH:∀X,Below w.heap.size w X→H X) (hl:l.length≤5000):
 Calls Tryz.prog 33 #[.func (.func fn) #[] #[.pointer (some ⟨Bt,0,none⟩)]] w (OftIEnd w l):=by
 refine (callsIn_wide (n:=2)).1 ?_
 have hro:Fence.wide.round=none:=rfl
 have HT:Hid (IterOk fn Bt l KpS H∧(∀X,Below w.heap.size w X→H X)):=⟨hit,hH⟩
 obtain⟨B1,hB1⟩:∃B1,B1=w.heap.size:=⟨_,rfl⟩
 obtain⟨w1,hw1⟩:∃w1,w1=w.alloc (.cells ((List.replicate 286 (0:Int)).map (Value.int .i64)).toArray 3):=⟨_,rfl⟩
 have hmk1:(Instr.makeSlice 30 (.int .i64 286) (.int .i64 286)).run Tryz.prog w=.ok (.slice (some ⟨B1,0,none⟩) 286 286) w1:=by rw[hB1,hw1];exact make_rowN 286 (by omega) w
 obtain⟨v1,hv1⟩:∃v1,v1=w1.alloc (.cells #[.slice (some ⟨B1,0,none⟩) 286 286] 30):=⟨_,rfl⟩
 obtain⟨B2,hB2⟩:∃B2,B2=v1.heap.size:=⟨_,rfl⟩
 obtain⟨w2,hw2⟩:∃w2,w2=v1.alloc (.cells ((List.replicate 30 (0:Int)).map (Value.int .i64)).toArray 3):=⟨_,rfl⟩
 have hmk2:(Instr.makeSlice 30 (.int .i64 30) (.int .i64 30)).run Tryz.prog (w1.alloc (.cells #[.slice (some ⟨B1,0,none⟩) 286 286] 30))=.ok (.slice (some ⟨B2,0,none⟩) 30 30) w2:=by rw[←hv1,hB2,hw2];exact make_rowN 30 (by omega) v1
 obtain⟨X0,hX0⟩:∃X0,X0=w2.alloc (.cells #[.slice (some ⟨B2,0,none⟩) 30 30] 30):=⟨_,rfl⟩
 obtain⟨P1,hP1⟩:∃P1,P1=w1.heap.size:=⟨_,rfl⟩
 obtain⟨P2,hP2⟩:∃P2,P2=w2.heap.size:=⟨_,rfl⟩
 have s1:w1.heap.size=w.heap.size+1:=by rw[hw1];simp
 have s2:v1.heap.size=w1.heap.size+1:=by rw[hv1];simp
 have s3:w2.heap.size=v1.heap.size+1:=by rw[hw2];simp
 have s4:X0.heap.size=w2.heap.size+1:=by rw[hX0];simp
 have b1:Below w.heap.size w w1:=by rw[hw1];exact (Below.refl _ _).alloc (Nat.le_refl _) _
 have b2:Below w1.heap.size w1 v1:=by rw[hv1];exact (Below.refl _ _).alloc (Nat.le_refl _) _
 have b3:Below v1.heap.size v1 w2:=by rw[hw2];exact (Below.refl _ _).alloc (Nat.le_refl _) _
 have b4:Below w2.heap.size w2 X0:=by rw[hX0];exact (Below.refl _ _).alloc (Nat.le_refl _) _
 have r1:DRow w1 B1 (Df.cntS []):=by rw[hw1,hB1];exact heap_alloc_new _ _
 have r2:DRow w2 B2 (Df.cntD []):=by rw[hw2,hB2];exact heap_alloc_new _ _
 have c1:v1.cell? ⟨P1,0,none⟩=some (.slice (some ⟨B1,0,none⟩) 286 286):=by rw[hv1,hP1,World.cell?_alloc_at _ _ _ _ rfl];rfl
 have c2:X0.cell? ⟨P2,0,none⟩=some (.slice (some ⟨B2,0,none⟩) 30 30):=by rw[hX0,hP2,World.cell?_alloc_at _ _ _ _ rfl];rfl
 have HJ0:Hid (JOk B1 B2 P1 P2 w [] X0):=⟨((r1.below b2).below b3).below b4,r2.below b4,(b4.cell (p:=⟨P1,0,none⟩) (by show P1<_;omega)).trans ((b3.cell (p:=⟨P1,0,none⟩) (by show P1<_;omega)).trans c1),c2,((b1.trans (b2.mono (by omega))).trans (b3.mono (by omega))).trans (b4.mono (by omega))⟩
 have HS:Hid (B1=w.heap.size∧P1=B1+1∧B2=B1+2∧P2=B1+3∧X0.heap.size=B1+4):=⟨hB1,by omega,by omega,by omega,by omega⟩
 have HX0:Hid (X0=w2.alloc (.cells #[.slice (some ⟨B2,0,none⟩) 30 30] 30)∧P1=w1.heap.size∧P2=w2.heap.size):=⟨hX0,hP1,hP2⟩
 clear hit hH hB1 hw1 hv1 hB2 hw2 hX0 hP1 hP2 s1 s2 s3 s4 b1 b2 b3 b4 r1 r2 c1 c2
 refine callsIn_of_wp_marks Tryz.func33 rfl trivial ?_ hro
 simp only[Tryz.ntmps33,List.size_toArray,List.length_cons,List.length_nil,Nat.reduceAdd,Nat.reduceSub,Array.replicate_succ,Array.replicate_zero,List.push_toArray,List.append_toArray,List.nil_append,List.cons_append]
 gi_wp2
 rw[←HX0.out.1,←HX0.out.2.1,←HX0.out.2.2]
 have hbtX:Bt<X0.heap.size:=by have:=HS.out;omega
 refine rangeIt (w:=X0) (base:=X0.heap.size) (J:=JO B1 B2 P1 P2 w) HT.out.1 (kpS_ok Bt) eg (fun _=>trivial) ?hgr ?htn ?hJH (Nat.le_refl _) ?hJm rfl rfl ?h0 hbtX
  (fun x W=>{ tmps:=#[.func (.func fn) #[] #[.pointer (some ⟨Bt,0,none⟩)],undef,.slice none 0 0,.slice none 0 0,.pointer (some ⟨P1,0,none⟩),.pointer (some ⟨P2,0,none⟩),.pointer (some ⟨W.heap.size,0,none⟩),.slice (some ⟨B1,0,none⟩) 286 286,.slice (some ⟨B2,0,none⟩) 30 30,.func (.func fn) #[] #[.pointer (some ⟨Bt,0,none⟩)],tkV x,undef,undef,undef,undef,undef,undef,undef,undef,undef,undef,undef,undef,undef,undef,undef,undef,undef,undef,undef,undef,undef,undef,undef,undef,undef,undef,undef,undef,undef,undef,undef,undef],defers:=[] }) ?assign ?body ?done
 case hgr=>
  intro pre m X Y row h hg hr
  have hs:=HS.out
  have hX:=h.low.size
  have hlt1:=h.r1.lt
  have hlt2:=h.r2.lt
  have hne:∀k,k<X0.heap.size→some k≠row:=fun k hk e=>by have:=(hr k e.symm).1;omega
  exact⟨h.r1.kept (hg.block B1 hlt1 (hne B1 (by omega))),h.r2.kept (hg.block B2 hlt2 (hne B2 (by omega))),(World.cell?_of_block (w:=X) (a:=⟨P1,0,none⟩) (hg.block P1 (by omega) (hne P1 (by omega)))).trans h.p1,(World.cell?_of_block (w:=X) (a:=⟨P2,0,none⟩) (hg.block P2 (by have:=(cell_lt h.p2);exact this) (hne P2 (by omega)))).trans h.p2,h.low.trans ((Below.refl w.heap.size X).grown hg hX (fun j e=>by have:=(hr j e).1;omega))⟩
 case htn=>
  intro pre m C X Y h hC ht
  have hs:=HS.out
  have hb:=ht.low.block
  exact JOk.step h (hb B1 (by omega)) (hb B2 (by omega)) (hb P1 (by omega)) (hb P2 (by omega)) (ht.low.mono (by omega))
 case hJH=>
  intro pre m X h
  exact HT.out.2 X h.low
 case hJm=>
  intro m m' X h hm
  exact h
 case h0=>exact HJ0.out
 case assign=>
  intro l' x W K hK
  dsimp only[tkV] at hK ⊢
  gi_wp2
  exact hK
 case body=>
  rintro l' pre ⟨t0,t1,t2⟩ m W Wb hok hJ hm3 hmW hWb hx hlen
  dsimp only at hx
  have hcx:Wb.cell? ⟨W.heap.size,0,none⟩=some (.int .i64 t0)∧Wb.cell? ⟨W.heap.size,1,none⟩=some (.int .i64 t1)∧Wb.cell? ⟨W.heap.size,2,none⟩=some (.int .i64 t2):=by
   refine⟨?_,?_,?_⟩<;>simp[World.cell?,hx]
  obtain⟨e0,e1,e2⟩:=hcx
  have hlP1:=cell_lt hJ.p1
  have hlP2:=cell_lt hJ.p2
  have hlB1:=hJ.r1.lt
  have hlB2:=hJ.r2.lt
  have q1:=hJ.p1
  have q2:=hJ.p2
  have HTS1:Hid (Df.cntS (pre++[(t0,t1,t2)])=Df.inc (Df.cntS pre) (Df.sym (t0,t1,t2))):=Df.cntS_snoc _ _
  have HTS2:Hid (Df.cntD (pre++[(t0,t1,t2)])=Df.incD (Df.cntD pre) (t0,t1,t2)):=Df.cntD_snoc _ _
  have hsy:=(Df.sym_ok hok).1
  have hcS:=Df.cntS_cnt pre pre.length (Nat.le_refl _)
  have hcD:=Df.cntD_cnt pre pre.length (Nat.le_refl _)
  rw[List.take_length] at hcS hcD
  have hlS:=Df.cntS_len pre
  have hlD:=Df.cntD_len pre
  have hs:=HS.out
  have HJ:Hid (JOk B1 B2 P1 P2 w pre Wb):=hJ
  have hptX:X0.heap.size≤W.heap.size:=by omega
  clear hJ hx
  rcases hok with⟨hs0,hv0,hv1⟩|⟨hs3,hs258,hd1,hd5⟩
  · obtain⟨V,rfl⟩:=Int.eq_ofNat_of_zero_le hv0
    dsimp only at hs0 hv1
    subst hs0
    have hsv:Df.sym ((V:Int),0,t2)=V:=rfl
    have hdv:Df.incD (Df.cntD pre) ((V:Int),0,t2)=Df.cntD pre:=rfl
    rw[hsv] at HTS1 hsy
    rw[hdv] at HTS2
    have hVl:V<(Df.cntS pre).length:=by omega
    have c1:=HJ.out.r1.cellD V hVl
    have f1:=HJ.out.r1.free V
    have hb1:=hcS V
    obtain⟨x,hx⟩:=Int.eq_ofNat_of_zero_le hb1.1
    rw[hx] at c1 hb1
    have hxb:x≤6000:=by omega
    have hset:=HJ.out.r1.set V ((x:Int)+1)
    have hinc:(Df.cntS pre).set V ((x:Int)+1)=Df.inc (Df.cntS pre) V:=by unfold Df.inc;rw[hx]
    rw[hinc,←HTS1.out] at hset
    obtain⟨x1,hx1⟩:∃x1,x1=x+1:=⟨_,rfl⟩
    have ex1:(x:Int)+1=(x1:Int):=by omega
    have wx1:IntKind.i64.wrap (x1:Int)=(x1:Int):=wrap_i64_nat x1 (by omega)
    have wx2:IntKind.i64.wrap ((x:Int)+1)=(x1:Int):=by rw[ex1];exact wx1
    rw[ex1] at hset
    have HF:Hid (itPost KpS (JO B1 B2 P1 P2 w) X0.heap.size m (pre++[((V:Int),0,t2)]) Wb .normal ⟨#[],[]⟩ (Wb.setCell ⟨B1,V,none⟩ (.int .i64 (x1:Int)))):=by
     have hk:∀k,k≠B1→(Wb.setCell ⟨B1,V,none⟩ (.int .i64 (x1:Int))).heap[k]?=Wb.heap[k]?:=fun k h=>Below.heap_setCell Wb ⟨B1,V,none⟩ _ k h
     refine⟨⟨by rw[World.size_setCell];exact Nat.le_refl _,fun k o h1 h2 _=>(hk k (by omega)).trans h2⟩,by show _≤_;rw[World.size_setCell];exact Nat.le_refl _,hset,?_,?_,?_,?_⟩
     · rw[HTS2.out];exact HJ.out.r2.kept (hk B2 (by omega))
     · exact (World.cell?_of_block (w:=Wb) (a:=⟨P1,0,none⟩) (hk P1 (by omega))).trans HJ.out.p1
     · exact (World.cell?_of_block (w:=Wb) (a:=⟨P2,0,none⟩) (hk P2 (by omega))).trans HJ.out.p2
     exact HJ.out.low.setCell (p:=⟨B1,V,none⟩) (by show w.heap.size≤B1;omega) _
    have hVn:V<286:=by omega
    have hVi:(V:Int)<286:=by omega
    clear hset hinc hx hx1 HJ HTS1 HTS2 hcS hcD hlS hlD hVl ex1 hs HJ0
    gi_wp2
    exact HF.out
  obtain⟨X,rfl⟩:=Int.eq_ofNat_of_zero_le (show 0≤t1 by dsimp only at hs3;omega)
  obtain⟨Y,rfl⟩:=Int.eq_ofNat_of_zero_le (show 0≤t2 by dsimp only at hd1;omega)
  dsimp only at hs3 hs258 hd1 hd5
  have hX0:¬(X:Int)=0:=by omega
  have HSZ5:Hid (∀w:World,Calls Tryz.prog 54 #[.int .i64 (X:Int)] w fun e w'=>e=.returned (signV (257+Df.szSym X) (Df.szBit X))∧Below w.heap.size w w'):=fun w=>sizeSign_any X (by omega) (by omega) w
  have HDS5:Hid (∀w:World,Calls Tryz.prog 55 #[.int .i64 (Y:Int)] w fun e w'=>e=.returned (signV (Df.dsSym Y) (Df.dsBit Y))∧Below w.heap.size w w'):=fun w=>distSign_any Y (by omega) (by omega) w
  unfold signV at HSZ5 HDS5
  have hsl:=Df.szSym_lt X
  have hdl:=Df.dsSym_lt Y
  have hsv:Df.sym (t0,(X:Int),(Y:Int))=257+Df.szSym X:=by unfold Df.sym;rw[if_neg hX0];rfl
  have hdv:Df.incD (Df.cntD pre) (t0,(X:Int),(Y:Int))=Df.inc (Df.cntD pre) (Df.dsSym Y):=by unfold Df.incD;rw[if_neg hX0];rfl
  rw[hsv] at HTS1 hsy
  rw[hdv] at HTS2
  clear hsv hdv
  obtain⟨SY,hSY⟩:∃SY,SY=257+Df.szSym X:=⟨_,rfl⟩
  obtain⟨DY,hDY⟩:∃DY,DY=Df.dsSym Y:=⟨_,rfl⟩
  rw[←hSY] at HSZ5 HTS1 hsy
  rw[←hDY] at HDS5 HTS2
  have hSYb:SY<286:=by omega
  have hDYb:DY<30:=by omega
  have hSYi:(SY:Int)<286:=by omega
  have hDYi:(DY:Int)<30:=by omega
  generalize (Df.szBit X).1=z1 at*
  generalize (Df.szBit X).2=z2 at*
  generalize (Df.dsBit Y).1=g1 at*
  generalize (Df.dsBit Y).2=g2 at*
  have HSS:Hid (B1=w.heap.size∧P1=B1+1∧B2=B1+2∧P2=B1+3∧X0.heap.size=B1+4):=hs
  clear hsl hdl hSY hDY hsy hs
  gi_wp2
  have hXb:((X:Int)==0)=false:=beq_eq_false_iff_ne.2 hX0
  rw[hXb]
  clear hXb
  have hlW:W.heap.size<Wb.heap.size:=cell_lt e1
  have c1:=HJ.out.r1.cellD SY (by omega)
  have hb1:=hcS SY
  obtain⟨cx,hx⟩:=Int.eq_ofNat_of_zero_le hb1.1
  have hb2:=hcD DY
  obtain⟨cy,hy⟩:=Int.eq_ofNat_of_zero_le hb2.1
  have c2':=HJ.out.r2.cellD DY (by omega)
  rw[hx] at c1 hb1
  rw[hy] at c2' hb2
  obtain⟨cx1,hx1⟩:∃cx1,cx1=cx+1:=⟨_,rfl⟩
  have ex1:(cx:Int)+1=(cx1:Int):=by omega
  have wx1:IntKind.i64.wrap (cx1:Int)=(cx1:Int):=wrap_i64_nat cx1 (by omega)
  have wx2:IntKind.i64.wrap ((cx:Int)+1)=(cx1:Int):=by rw[ex1];exact wx1
  obtain⟨cy1,hy1⟩:∃cy1,cy1=cy+1:=⟨_,rfl⟩
  have ey1:(cy:Int)+1=(cy1:Int):=by omega
  have wy1:IntKind.i64.wrap (cy1:Int)=(cy1:Int):=wrap_i64_nat cy1 (by omega)
  have wy2:IntKind.i64.wrap ((cy:Int)+1)=(cy1:Int):=by rw[ey1];exact wy1
  have hinc1:(Df.cntS pre).set SY (cx1:Int)=Df.inc (Df.cntS pre) SY:=by unfold Df.inc;rw[hx,ex1]
  have hinc2:(Df.cntD pre).set DY (cy1:Int)=Df.inc (Df.cntD pre) DY:=by unfold Df.inc;rw[hy,ey1]
  have HI1:Hid ((Df.cntS pre).set SY (cx1:Int)=Df.cntS (pre++[(t0,(X:Int),(Y:Int))])):=by show _=_;rw[hinc1,HTS1.out]
  have HI2:Hid ((Df.cntD pre).set DY (cy1:Int)=Df.cntD (pre++[(t0,(X:Int),(Y:Int))])):=by show _=_;rw[hinc2,HTS2.out]
  have HW:Hid (X0.heap.size≤W.heap.size∧B1<W.heap.size∧B2<W.heap.size∧P1<W.heap.size∧P2<W.heap.size):=⟨hptX,by have:=HSS.out;omega,by have:=HSS.out;omega,by have:=HSS.out;omega,by have:=HSS.out;omega⟩
  clear hinc1 hinc2 hx hy hx1 hy1 ex1 ey1 hcS hcD hlS hlD HTS1 HTS2
  refine round_region (by kernel_rfl) (fun _ _ h=>h) (by kernel_rfl) ?_
  refine wpAny_take (i:=1) (v:=(.pointer (some ⟨W.heap.size,1,none⟩))) rfl (by kernel_rfl) (by kernel_rfl) (by kernel_rfl) (fun _ _ _ h=>h) (Or.inl ⟨by rfl,?_⟩) ?_
  · intro wy
    go_simp
  try simp only[Act.put,litE]
  refine wpAny_told (S:=(fun wz=>Below Wb.heap.size Wb wz)) [1] 8 43 [.is (.slice (some ⟨B1,0,none⟩) 286 286),.is (.pointer (some ⟨W.heap.size,1,none⟩)),.is (.int .i64 (X:Int)),.is (.agg #[.int .i64 (SY:Int),.int .i64 z1,.int .i64 z2]),.is (.int .i64 (SY:Int)),.is (.pointer (some ⟨B1,SY,none⟩)),.is (.int .i64 (cx:Int)),.is (.int .i64 (cx1:Int))] (fun j=>if j=1 then (.pointer (some ⟨W.heap.size,1,none⟩)) else undef) (by kernel_rfl) (by kernel_rfl) (by kernel_rfl) (by kernel_rfl) (by kernel_rfl) (by rfl) (fun _ _ _ _ _ h=>h) (by kernel_rfl) (fun j hj=>by simp only[List.mem_cons,List.not_mem_nil,or_false] at hj;rcases hj with rfl<;>rfl) (fun vs=>by simp only[puts,List.getElem?_toArray,List.getElem?_cons_succ,List.getElem?_cons_zero,Option.bind_some,Act.put,List.setIfInBounds_toArray,List.set_cons_zero,List.set_cons_succ];exact rfl) ((Below.refl _ _).drew) ?_ ?_
  · refine TellsFrom.cons rfl (fun vs wz hS hd K hK=>?_) ?_
    · try dsimp only at hK ⊢
      try simp only[Act.put,litE]
      have q0:=(hS.cell (p:=⟨P1,0,none⟩) hlP1).trans q1
      go_simp
      exact hK.out _ _ hS (Below.refl _ _) rfl
    refine TellsFrom.cons rfl (fun vs wz hS hd K hK=>?_) ?_
    · try dsimp only at hK ⊢
      try simp only[Act.put,litE]
      go_simp
      exact hK.out _ _ hS (Below.refl _ _) rfl
    refine TellsFrom.cons rfl (fun vs wz hS hd K hK=>?_) ?_
    · try dsimp only at hK ⊢
      have h1:vs 1=(.pointer (some ⟨W.heap.size,1,none⟩)):=hd 1 (by kernel_rfl)
      generalize vs 1=x1 at*
      subst h1
      try simp only[Act.put,litE]
      have q0:=(hS.cell (p:=⟨W.heap.size,1,none⟩) hlW).trans e1
      go_simp
      exact hK.out _ _ hS (Below.refl _ _) rfl
    refine TellsFrom.cons rfl (fun vs wz hS hd K hK=>?_) ?_
    · try dsimp only at hK ⊢
      have h2:vs 2=(.int .i64 (X:Int)):=hd 2 (by kernel_rfl)
      generalize vs 2=x2 at*
      subst h2
      try simp only[Act.put,litE]
      go_simp
      refine (HSZ5.out _).mono ?_
      rintro e v1 ⟨rfl,b1⟩
      exact hK.out _ _ (hS.trans (b1.mono hS.size)) b1 rfl
    refine TellsFrom.cons rfl (fun vs wz hS hd K hK=>?_) ?_
    · try dsimp only at hK ⊢
      have h3:vs 3=(.agg #[.int .i64 (SY:Int),.int .i64 z1,.int .i64 z2]):=hd 3 (by kernel_rfl)
      generalize vs 3=x3 at*
      subst h3
      try simp only[Act.put,litE]
      go_simp
      exact hK.out _ _ hS (Below.refl _ _) rfl
    refine TellsFrom.cons rfl (fun vs wz hS hd K hK=>?_) ?_
    · try dsimp only at hK ⊢
      have h0:vs 0=(.slice (some ⟨B1,0,none⟩) 286 286):=hd 0 (by kernel_rfl)
      generalize vs 0=x0 at*
      subst h0
      have h4:vs 4=(.int .i64 (SY:Int)):=hd 4 (by kernel_rfl)
      generalize vs 4=x4 at*
      subst h4
      try simp only[Act.put,litE]
      go_simp
      exact hK.out _ _ hS (Below.refl _ _) rfl
    refine TellsFrom.cons rfl (fun vs wz hS hd K hK=>?_) ?_
    · try dsimp only at hK ⊢
      have h5:vs 5=(.pointer (some ⟨B1,SY,none⟩)):=hd 5 (by kernel_rfl)
      generalize vs 5=x5 at*
      subst h5
      try simp only[Act.put,litE]
      have q0:=(hS.cell (p:=⟨B1,SY,none⟩) hlB1).trans c1
      go_simp
      exact hK.out _ _ hS (Below.refl _ _) rfl
    refine TellsFrom.cons rfl (fun vs wz hS hd K hK=>?_) ?_
    · try dsimp only at hK ⊢
      have h6:vs 6=(.int .i64 (cx:Int)):=hd 6 (by kernel_rfl)
      generalize vs 6=x6 at*
      subst h6
      try simp only[Act.put,litE]
      go_simp
      exact hK.out _ _ hS (Below.refl _ _) rfl
    exact TellsFrom.nil
  intro vs wz hS hd
  try dsimp only
  have h0:vs 0=.slice (some ⟨B1,0,none⟩) 286 286:=hd 0 (by omega)
  have h4:vs 4=.int .i64 (SY:Int):=hd 4 (by omega)
  have h7:vs 7=.int .i64 (cx1:Int):=hd 7 (by omega)
  clear hd
  generalize vs 0=y0 at*
  generalize vs 1=y1 at*
  generalize vs 2=y2 at*
  generalize vs 3=y3 at*
  generalize vs 4=y4 at*
  generalize vs 5=y5 at*
  generalize vs 6=y6 at*
  generalize vs 7=y7 at*
  subst h0
  subst h4
  subst h7
  have HS1a:Hid (Below Wb.heap.size Wb wz):=hS
  have hrz:=(HJ.out.r1).below hS
  have fz:=hrz.free SY
  have cz:=(hS.cell (p:=⟨B1,SY,none⟩) hlB1).trans c1
  clear hS
  refine wpAnyH_ready (rs:=[8]) (by kernel_rfl) (by simp) ?_
  refine AllReadyH.cons rfl (fun K hK=>?_) AllReadyH.nil
  go_simp
  refine hK.out _ _ trivial (fun _=>?_)
  clear hK K
  refine wpAnyH_ready (rs:=[9]) (by kernel_rfl) (by simp) ?_
  refine AllReadyH.cons rfl (fun K hK=>?_) AllReadyH.nil
  go_simp
  refine hK.out _ _ trivial (fun _=>?_)
  clear hK K
  refine wpAnyH_done (by kernel_rfl) ?_ _
  try simp only[Act.put,litE]
  obtain⟨V1,hV1⟩:∃V1,V1=wz.setCell ⟨B1,SY,none⟩ (.int .i64 (cx1:Int)):=⟨_,rfl⟩
  rw[←hV1]
  have hk:∀k,k≠B1→k<Wb.heap.size→V1.heap[k]?=Wb.heap[k]?:=fun k h h2=>by
   rw[hV1];exact (Below.heap_setCell wz ⟨B1,SY,none⟩ _ k h).trans (HS1a.out.block k h2)
  have hsV:Wb.heap.size≤V1.heap.size:=by rw[hV1,World.size_setCell];exact HS1a.out.size
  have hrV:DRow V1 B1 (Df.cntS (pre++[(t0,(X:Int),(Y:Int))])):=by rw[hV1,←HI1.out];exact hrz.set SY (cx1:Int)
  have HJV:Hid (DRow V1 B2 (Df.cntD pre)∧DRow V1 B1 (Df.cntS (pre++[(t0,(X:Int),(Y:Int))]))∧Wb.heap.size≤V1.heap.size∧(∀k,k≠B1→k<Wb.heap.size→V1.heap[k]?=Wb.heap[k]?)∧Below w.heap.size w V1):=⟨HJ.out.r2.kept (hk B2 (by have:=HSS.out;omega) hlB2),hrV,hsV,hk,by rw[hV1];exact (HJ.out.low.trans (HS1a.out.mono HJ.out.low.size)).setCell (p:=⟨B1,SY,none⟩) (by show w.heap.size≤B1;have:=HSS.out;omega) _⟩
  have hlP2v:P2<V1.heap.size:=by omega
  have hlB2v:B2<V1.heap.size:=by omega
  have hlWv:W.heap.size<V1.heap.size:=by omega
  have q2v:V1.cell? ⟨P2,0,none⟩=some (.slice (some ⟨B2,0,none⟩) 30 30):=(World.cell?_of_block (w:=Wb) (a:=⟨P2,0,none⟩) (hk P2 (by have:=HSS.out;omega) hlP2)).trans q2
  have e2v:V1.cell? ⟨W.heap.size,2,none⟩=some (.int .i64 (Y:Int)):=(World.cell?_of_block (w:=Wb) (a:=⟨W.heap.size,2,none⟩) (hk W.heap.size (by have:=HW.out;omega) hlW)).trans e2
  have c2:V1.cell? ⟨B2,DY,none⟩=some (.int .i64 (cy:Int)):=(World.cell?_of_block (w:=Wb) (a:=⟨B2,DY,none⟩) (hk B2 (by have:=HSS.out;omega) hlB2)).trans c2'
  clear hk hsV hrV hrz fz cz hV1 c2'
  gi_wp2
  refine round_region (by kernel_rfl) (fun _ _ h=>h) (by kernel_rfl) ?_
  refine wpAny_take (i:=1) (v:=(.pointer (some ⟨W.heap.size,2,none⟩))) rfl (by kernel_rfl) (by kernel_rfl) (by kernel_rfl) (fun _ _ _ h=>h) (Or.inl ⟨by rfl,?_⟩) ?_
  · intro wy
    go_simp
  try simp only[Act.put,litE]
  refine wpAny_told (S:=(fun wz=>Below V1.heap.size V1 wz)) [1] 8 43 [.is (.slice (some ⟨B2,0,none⟩) 30 30),.is (.pointer (some ⟨W.heap.size,2,none⟩)),.is (.int .i64 (Y:Int)),.is (.agg #[.int .i64 (DY:Int),.int .i64 g1,.int .i64 g2]),.is (.int .i64 (DY:Int)),.is (.pointer (some ⟨B2,DY,none⟩)),.is (.int .i64 (cy:Int)),.is (.int .i64 (cy1:Int))] (fun j=>if j=1 then (.pointer (some ⟨W.heap.size,2,none⟩)) else undef) (by kernel_rfl) (by kernel_rfl) (by kernel_rfl) (by kernel_rfl) (by kernel_rfl) (by rfl) (fun _ _ _ _ _ h=>h) (by kernel_rfl) (fun j hj=>by simp only[List.mem_cons,List.not_mem_nil,or_false] at hj;rcases hj with rfl<;>rfl) (fun vs=>by simp only[puts,List.getElem?_toArray,List.getElem?_cons_succ,List.getElem?_cons_zero,Option.bind_some,Act.put,List.setIfInBounds_toArray,List.set_cons_zero,List.set_cons_succ];exact rfl) ((Below.refl _ _).drew) ?_ ?_
  · refine TellsFrom.cons rfl (fun vs wz hS hd K hK=>?_) ?_
    · try dsimp only at hK ⊢
      try simp only[Act.put,litE]
      have q0:=(hS.cell (p:=⟨P2,0,none⟩) hlP2v).trans q2v
      go_simp
      exact hK.out _ _ hS (Below.refl _ _) rfl
    refine TellsFrom.cons rfl (fun vs wz hS hd K hK=>?_) ?_
    · try dsimp only at hK ⊢
      try simp only[Act.put,litE]
      go_simp
      exact hK.out _ _ hS (Below.refl _ _) rfl
    refine TellsFrom.cons rfl (fun vs wz hS hd K hK=>?_) ?_
    · try dsimp only at hK ⊢
      have h1:vs 1=(.pointer (some ⟨W.heap.size,2,none⟩)):=hd 1 (by kernel_rfl)
      generalize vs 1=x1 at*
      subst h1
      try simp only[Act.put,litE]
      have q0:=(hS.cell (p:=⟨W.heap.size,2,none⟩) hlWv).trans e2v
      go_simp
      exact hK.out _ _ hS (Below.refl _ _) rfl
    refine TellsFrom.cons rfl (fun vs wz hS hd K hK=>?_) ?_
    · try dsimp only at hK ⊢
      have h2:vs 2=(.int .i64 (Y:Int)):=hd 2 (by kernel_rfl)
      generalize vs 2=x2 at*
      subst h2
      try simp only[Act.put,litE]
      go_simp
      refine (HDS5.out _).mono ?_
      rintro e v1 ⟨rfl,b1⟩
      exact hK.out _ _ (hS.trans (b1.mono hS.size)) b1 rfl
    refine TellsFrom.cons rfl (fun vs wz hS hd K hK=>?_) ?_
    · try dsimp only at hK ⊢
      have h3:vs 3=(.agg #[.int .i64 (DY:Int),.int .i64 g1,.int .i64 g2]):=hd 3 (by kernel_rfl)
      generalize vs 3=x3 at*
      subst h3
      try simp only[Act.put,litE]
      go_simp
      exact hK.out _ _ hS (Below.refl _ _) rfl
    refine TellsFrom.cons rfl (fun vs wz hS hd K hK=>?_) ?_
    · try dsimp only at hK ⊢
      have h0:vs 0=(.slice (some ⟨B2,0,none⟩) 30 30):=hd 0 (by kernel_rfl)
      generalize vs 0=x0 at*
      subst h0
      have h4:vs 4=(.int .i64 (DY:Int)):=hd 4 (by kernel_rfl)
      generalize vs 4=x4 at*
      subst h4
      try simp only[Act.put,litE]
      go_simp
      exact hK.out _ _ hS (Below.refl _ _) rfl
    refine TellsFrom.cons rfl (fun vs wz hS hd K hK=>?_) ?_
    · try dsimp only at hK ⊢
      have h5:vs 5=(.pointer (some ⟨B2,DY,none⟩)):=hd 5 (by kernel_rfl)
      generalize vs 5=x5 at*
      subst h5
      try simp only[Act.put,litE]
      have q0:=(hS.cell (p:=⟨B2,DY,none⟩) hlB2v).trans c2
      go_simp
      exact hK.out _ _ hS (Below.refl _ _) rfl
    refine TellsFrom.cons rfl (fun vs wz hS hd K hK=>?_) ?_
    · try dsimp only at hK ⊢
      have h6:vs 6=(.int .i64 (cy:Int)):=hd 6 (by kernel_rfl)
      generalize vs 6=x6 at*
      subst h6
      try simp only[Act.put,litE]
      go_simp
      exact hK.out _ _ hS (Below.refl _ _) rfl
    exact TellsFrom.nil
  intro vs wz hS hd
  try dsimp only
  have h0:vs 0=.slice (some ⟨B2,0,none⟩) 30 30:=hd 0 (by omega)
  have h4:vs 4=.int .i64 (DY:Int):=hd 4 (by omega)
  have h7:vs 7=.int .i64 (cy1:Int):=hd 7 (by omega)
  clear hd
  generalize vs 0=y0 at*
  generalize vs 1=y1 at*
  generalize vs 2=y2 at*
  generalize vs 3=y3 at*
  generalize vs 4=y4 at*
  generalize vs 5=y5 at*
  generalize vs 6=y6 at*
  generalize vs 7=y7 at*
  subst h0
  subst h4
  subst h7
  have HS1b:Hid (Below V1.heap.size V1 wz):=hS
  have hrz:=(HJV.out.1).below hS
  have fz:=hrz.free DY
  have cz:=(hS.cell (p:=⟨B2,DY,none⟩) hlB2v).trans c2
  clear hS
  refine wpAnyH_ready (rs:=[8]) (by kernel_rfl) (by simp) ?_
  refine AllReadyH.cons rfl (fun K hK=>?_) AllReadyH.nil
  go_simp
  refine hK.out _ _ trivial (fun _=>?_)
  clear hK K
  refine wpAnyH_ready (rs:=[9]) (by kernel_rfl) (by simp) ?_
  refine AllReadyH.cons rfl (fun K hK=>?_) AllReadyH.nil
  go_simp
  refine hK.out _ _ trivial (fun _=>?_)
  clear hK K
  refine wpAnyH_done (by kernel_rfl) ?_ _
  try simp only[Act.put,litE]
  obtain⟨V2,hV2⟩:∃V2,V2=wz.setCell ⟨B2,DY,none⟩ (.int .i64 (cy1:Int)):=⟨_,rfl⟩
  rw[←hV2]
  have HF:Hid (itPost KpS (JO B1 B2 P1 P2 w) X0.heap.size m (pre++[(t0,(X:Int),(Y:Int))]) Wb .normal ⟨#[],[]⟩ V2):=by
   have hs:=HSS.out
   have hk:∀k,k≠B2→k<V1.heap.size→V2.heap[k]?=V1.heap[k]?:=fun k h h2=>by
    rw[hV2];exact (Below.heap_setCell wz ⟨B2,DY,none⟩ _ k h).trans (HS1b.out.block k h2)
   have hsV:V1.heap.size≤V2.heap.size:=by rw[hV2,World.size_setCell];exact HS1b.out.size
   have hv:=HJV.out
   have hall:∀k,k≠B1→k≠B2→k<Wb.heap.size→V2.heap[k]?=Wb.heap[k]?:=fun k h1 h2 h3=>(hk k h2 (by omega)).trans (hv.2.2.2.1 k h1 h3)
   refine⟨⟨by omega,fun k o h1 h2 _=>(hall k (by omega) (by omega) (Array.getElem?_eq_some_iff.1 h2).1).trans h2⟩,by show _≤_;omega,hv.2.1.kept (hk B1 (by omega) (by omega)),?_,?_,?_,?_⟩
   · rw[hV2,←HI2.out];exact hrz.set DY (cy1:Int)
   · exact (World.cell?_of_block (w:=Wb) (a:=⟨P1,0,none⟩) (hall P1 (by omega) (by omega) hlP1)).trans HJ.out.p1
   · exact (World.cell?_of_block (w:=Wb) (a:=⟨P2,0,none⟩) (hall P2 (by omega) (by omega) hlP2)).trans HJ.out.p2
   rw[hV2];exact (hv.2.2.2.2.trans (HS1b.out.mono hv.2.2.2.2.size)).setCell (p:=⟨B2,DY,none⟩) (by show w.heap.size≤B2;omega) _
  clear hV2 hrz fz cz
  gi_wp2
  exact HF.out
 case done=>
  rintro D W m hD hJ hK
  have HJ:Hid (JOk B1 B2 P1 P2 w l W):=hJ
  have hs:=HS.out
  have c256:=hJ.r1.cellD 256 (by rw[Df.cntS_len];decide)
  have f256:=hJ.r1.free 256
  have q1:=hJ.p1
  have q2:=hJ.p2
  generalize (Df.cntS l).getD 256 0=u256 at c256
  have HK:Hid (W.heap[D]?=some (.deferred (some []))):=hK
  clear hJ hK hs
  gi_wp2
  refine Code.wpIn_mono noP_mono (wpIn_wide.2 ?_)
  obtain⟨V,hV⟩:∃V,V=W.setCell ⟨B1,256,none⟩ (.int .i64 1):=⟨_,rfl⟩
  rw[←hV]
  have hk:∀k,k≠B1→V.heap[k]?=W.heap[k]?:=fun k h=>by rw[hV];exact Below.heap_setCell W ⟨B1,256,none⟩ _ k h
  have p1:V.cell? ⟨P1,0,none⟩=some (.slice (some ⟨B1,0,none⟩) 286 286):=(World.cell?_of_block (w:=W) (a:=⟨P1,0,none⟩) (hk P1 (by have:=HS.out;omega))).trans q1
  have p2:V.cell? ⟨P2,0,none⟩=some (.slice (some ⟨B2,0,none⟩) 30 30):=(World.cell?_of_block (w:=W) (a:=⟨P2,0,none⟩) (hk P2 (by have:=HS.out;omega))).trans q2
  have HR:Hid (DRow V B1 (Df.oftS l)∧DRow V B2 (Df.cntD l)∧Below w.heap.size w V∧V.heap[D]?=some (.deferred (some []))):=by
   refine⟨?_,HJ.out.r2.kept (hk B2 (by have:=HS.out;omega)),?_,(hk D (by have:=HS.out;omega)).trans HK.out⟩
   · rw[hV];exact HJ.out.r1.set 256 1
   rw[hV];exact HJ.out.low.setCell (p:=⟨B1,256,none⟩) (by show w.heap.size≤B1;have:=HS.out;omega) _
  clear hk hV q1 q2 c256 f256 HJ HK
  go_still_tail 3,(by kernel_rfl)
  repeat still_step
  try refine wpStill_nil ?_
  go_wp2_with fail
  refine noP_norm ?_
  gi_wp2
  have hs:=HS.out
  have hr:=HR.out
  have hkd:∀k,k<X0.heap.size→(V.drew.putObj D (.deferred none)).heap[k]?=V.heap[k]?:=fun k h=>World.putObj_heap_other (by omega)
  refine⟨by simp,.inl ⟨_,_,rfl,run_takeDeferred (show V.drew.heap[D]?=_ from hr.2.2.2),?_⟩⟩
  refine⟨.tuple #[.slice (some ⟨B1,0,none⟩) 286 286,.slice (some ⟨B2,0,none⟩) 30 30],by simp[results,Tryz.results33,go_sem],⟨B1,B2,rfl,by omega,by omega,hr.1.kept (hkd B1 (by omega)),hr.2.1.kept (hkd B2 (by omega))⟩,?_⟩
  exact hr.2.2.1.drew.grown (grownBy_putObj' V.drew D (.deferred none)) hr.2.2.1.drew.size (fun k e=>by cases e;omega)
end Go.Proofs.YtejebodgfoihkaaGreat
