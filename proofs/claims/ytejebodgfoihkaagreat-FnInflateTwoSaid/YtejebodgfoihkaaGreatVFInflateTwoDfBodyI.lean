/- The packer of the program: all tokens, and the end of the block. -/
import Derived.Test.YtejebodgfoihkaaGreatKFInflateTwox0a
import Derived.Deep.RegionHeld
import Derived.RangeFuncCalls
import Derived.Test.YtejebodgfoihkaaGreatVFInflateTwoDfTkI
import Derived.Test.YtejebodgfoihkaaGreatKFInflateTwox7
import Derived.Test.YtejebodgfoihkaaGreatKFInflateTwox0
namespace Go.Proofs.YtejebodgfoihkaaGreat
open Go.RowKit Go.Shelf Go.Maps

attribute [local go_sem] Oper.semAt_some

def NoP (Q:Exit→Act→World→Prop):Exit→Act→World→Prop
 | .panic _,_,_=>False
 | e,a,w=>Q e a w
theorem noP_mono {Q:Exit→Act→World→Prop} (e:Exit) (a:Act) (w:World) (h:NoP Q e a w):Q e a w:=by
 cases e<;>first|exact h|exact h.elim
theorem noP_any {Q:Exit→Act→World→Prop} {c:_} {a b:Act} {w w':World} (h:NoP Q (.panic c) a w):NoP Q (.panic c) b w':=h.elim
theorem noP_norm {Q:Exit→Act→World→Prop} {a:Act} {w:World} (h:Q .normal a w):NoP Q .normal a w:=h
theorem pk_set1 {w:World} {B:Nat} {x0 x1 x2:Value} (h:w.heap[B]?=some (.cells #[x0,x1,x2] 41 (0,0))) (v:Value):(w.setCell ⟨B,1,none⟩ v).heap[B]?=some (.cells #[x0,v,x2] 41 (0,0)):=by
 rw[setCell_eq_setRow w B 1 _ _ (0,0) _ h]
 exact setRow_heap w B _ _ _ _ h
theorem pk_set2 {w:World} {B:Nat} {x0 x1 x2:Value} (h:w.heap[B]?=some (.cells #[x0,x1,x2] 41 (0,0))) (v:Value):(w.setCell ⟨B,2,none⟩ v).heap[B]?=some (.cells #[x0,x1,v] 41 (0,0)):=by
 rw[setCell_eq_setRow w B 2 _ _ (0,0) _ h]
 exact setRow_heap w B _ _ _ _ h
structure PkSet (B:Nat) (w w':World):Prop where
 os:w'.os=w.os
 tape:w'.tape=w.tape
 output:w'.output=w.output
 size:w.heap.size≤w'.heap.size
 block:∀k,k<w.heap.size→k≠B→w'.heap[k]?=w.heap[k]?
theorem PkSet.of {B:Nat} {w w':World} (h:Below w.heap.size w w'):PkSet B w w':=⟨h.os,h.tape,h.output,h.size,fun k hk _=>h.block k hk⟩
theorem PkSet.trans {B:Nat} {a b c:World} (h:PkSet B a b) (k:PkSet B b c):PkSet B a c:=⟨k.os.trans h.os,k.tape.trans h.tape,k.output.trans h.output,Nat.le_trans h.size k.size,fun i hi hB=>(k.block i (Nat.lt_of_lt_of_le hi h.size) hB).trans (h.block i hi hB)⟩
theorem PkSet.set {B:Nat} (w:World) (i:Nat) (v:Value):PkSet B w (w.setCell ⟨B,i,none⟩ v):=⟨rfl,rfl,rfl,by rw[World.size_setCell];exact Nat.le_refl _,fun k _ hB=>Below.heap_setCell w ⟨B,i,none⟩ v k hB⟩
theorem PkSet.own {B N:Nat} {v:Value} {l:List (Int×Int)} {w w':World} (h:PkSet B w w') (ho:OwnP w (B+1) v N l):OwnP w' (B+1) v N l:=ho.same (fun k hk hB=>h.block k hk (by omega))
theorem PkSet.grownBy {B:Nat} {w w':World} (h:PkSet B w w'):w.grownBy w' (some B):=⟨h.os,h.tape,h.output,h.size,fun k hk hB=>h.block k hk (fun e=>hB (by rw[e]))⟩
theorem PkSet.ownX {B N:Nat} {v:Value} {l:List (Int×Int)} {w w':World} (h:PkSet B w w') (ho:OwnX w B v N l):OwnX w' B v N l:=⟨World.ownsRow.kept (show World.ownsRow _ _ _ _ _ _ _ from ho.1) h.grownBy (.inr ho.2),ho.2⟩
theorem PkSet.gr {B N:Nat} {v:Value} {l:List (Int×Int)} {w w':World} (h:PkSet B w w') (ho:OwnX w B v N l):Gr B v v w w':=⟨h.os,h.tape,h.output,h.size,fun k h1 h2 _=>h.block k h1 h2,fun k e=>⟨.inl e,Nat.lt_of_lt_of_le (World.ownsRow.lt (show World.ownsRow _ _ _ _ _ _ _ from ho.1) k e).2 h.size⟩⟩
theorem PkSet.ints {B:Nat} {w w':World} (h:PkSet B w w') {a:Option Addr} {l:List Int} (hi:Ints w a l) (hB:∀b off,a=some ⟨b,off,none⟩→b≠B):Ints w' a l:=by
 rcases hi with e|⟨b,off,rfl,hb,hc⟩
 · exact .inl e
 exact .inr ⟨b,off,rfl,Nat.lt_of_lt_of_le hb h.size,fun i hi=>(World.cell?_of_block (w:=w) (a:=⟨b,off+i,none⟩) (h.block b hb (hB b off rfl))).trans (hc i hi)⟩
def JB (B N:Nat) (v0:Value) (l:List (Int×Int)) (LS LD:List Int) (x1 x2:Value) (w:World) (pre:List Tk) (m:Nat) (W:World):Prop:=
 ∃v,PkDone B x1 x2 v0 (N+(Df.toks LS LD pre).length) (l++Df.toks LS LD pre) w v W∧∀j,v.ownBlock=some j→j<m
theorem code1_of {W:World} {B B' g n:Nat} {v:Value} {L:List Int} (ho:OwnP W B' (.slice (some ⟨g,0,none⟩) n n) n (Cp.all L)) (h1:L.length=n) (h2:n≤300) (h3:g≠B) (h4:v.ownBlock≠some g):Code1 W B v g n L:=
 ⟨h1,h2,(World.ownsRow.lt (show World.ownsRow _ _ _ _ _ _ _ from ho) g rfl).2,h3,h4,fun s hs=>by
  obtain⟨c1,c2⟩:=cellsOf_get (Cp.all L) s (by rw[Cp.all_len,h1];exact hs)
  rw[Cp.all_get] at c1 c2
  exact⟨(World.ownsRow.cellAt ho (s*2) (by omega)).trans c1,(World.ownsRow.cellAt ho (s*2+1) (by omega)).trans c2⟩⟩
theorem ownP_obj {X:World} {B n j:Nat} {v:Value} {l:List (Int×Int)} (h:OwnP X B v n l) (e:v.ownBlock=some j):∃cur,X.heap[j]?=some (.cells cur 38 (0,0)):=by
 rcases h.2 with⟨rfl,_⟩|⟨g,cap,cur,rfl,_,hg,_⟩
 · simp[Value.ownBlock] at e
 obtain rfl:g=j:=by simpa [Value.ownBlock] using e
 exact⟨cur,hg⟩
theorem Gr.refl {B N:Nat} {v:Value} {l:List (Int×Int)} {w:World} (ho:OwnX w B v N l):Gr B v v w w:=(PkSet.of (Below.refl _ _)).gr ho
theorem PkDone.grown {B n base:Nat} {x1 x2 v0 v:Value} {l:List (Int×Int)} {w X Y:World} {row:Option Nat} (hbase:base=w.heap.size) (h:PkDone B x1 x2 v0 n l w v X) (hB:B<base) (hg:X.grownBy Y row) (hr:∀r,row=some r→base≤r∧∃o:Obj,X.heap[r]?=some o∧o.isCells=false):PkDone B x1 x2 v0 n l w v Y:=by
 have hX:=h.2.2.size
 refine⟨(hg.block B (by omega) (fun e=>by have:=(hr B e.symm).1;omega)).trans h.1,⟨World.ownsRow.kept (show World.ownsRow _ _ _ _ _ _ _ from h.2.1.1) hg ?_,h.2.1.2⟩,⟨hg.os.trans h.2.2.os,hg.tape.trans h.2.2.tape,hg.output.trans h.2.2.output,Nat.le_trans hX hg.size,fun k h1 h2 h3=>(hg.block k (by omega) (fun e=>by have:=(hr k e.symm).1;omega)).trans (h.2.2.block k h1 h2 h3),fun k e=>⟨(h.2.2.own k e).1,Nat.lt_of_lt_of_le (h.2.2.own k e).2 hg.size⟩⟩⟩
 cases hv':v.ownBlock with
 | none=>exact .inl rfl
 | some j=>
  refine .inr (fun e=>?_)
  obtain⟨cur,hc⟩:=ownP_obj h.2.1.1 hv'
  obtain⟨_,o,ho',hcells⟩:=hr j e.symm
  rw[hc] at ho';cases ho';cases hcells
theorem PkDone.turn {B n C:Nat} {x1 x2 v0 v:Value} {l:List (Int×Int)} {w X Y:World} (h:PkDone B x1 x2 v0 n l w v X) (hB:B<w.heap.size) (hC:w.heap.size≤C) (ht:Tn C X Y):PkDone B x1 x2 v0 n l w v Y:=by
 refine⟨(ht.low.block B (by omega)).trans h.1,⟨⟨h.2.1.1.1,?_⟩,h.2.1.2⟩,⟨ht.low.os.trans h.2.2.os,ht.low.tape.trans h.2.2.tape,ht.low.output.trans h.2.2.output,Nat.le_trans h.2.2.size ht.low.size,fun k h1 h2 h3=>(ht.low.block k (by omega)).trans (h.2.2.block k h1 h2 h3),fun k e=>⟨(h.2.2.own k e).1,Nat.lt_of_lt_of_le (h.2.2.own k e).2 ht.low.size⟩⟩⟩
 rcases h.2.1.1.2 with h2|⟨g,cap,cur,hv,hg,hh,r⟩
 · exact .inl h2
 exact .inr ⟨g,cap,cur,hv,hg,ht.same g _ hh (by show (38:TypeId)≠3;decide),r⟩
theorem Gr.keeps {B n C:Nat} {v v' x1 x2:Value} {l:List (Int×Int)} {X Y:World} (h:Gr B v v' X Y) (hB:X.heap[B]?=some (.cells #[v,x1,x2] 41 (0,0))) (ho:OwnX X B v n l):KeepsFrom C X Y:=
 ⟨h.size,fun k o _ hk hc=>(h.block k (Array.getElem?_eq_some_iff.1 hk).1 (fun e=>by subst e;rw[hB] at hk;cases hk;cases hc) (fun e=>by
  obtain⟨cur,hcur⟩:=ownP_obj ho.1 e
  rw[hcur] at hk;cases hk;cases hc)).trans hk⟩
def BodyEnd (B N:Nat) (v:Value) (l ps:List (Int×Int)) (w:World) (e:Ending) (w':World):Prop:=(∃r,e=.returned r)∧∃v' y1 y2,PkDone B y1 y2 v (N+ps.length) (l++ps) w v' w'
def Rounds (B:Nat) (v0:Value) (w:World) (Kp:Nat→World→World→Prop):Prop:=
 ∀(m n:Nat) (X Y:World) (v v' x1 x2:Value) (l:List (Int×Int)),X.heap[B]?=some (.cells #[v,x1,x2] 41 (0,0))→OwnX X B v n l→Gr B v0 v w X→(∀j,v.ownBlock=some j→j<m)→B<m→Gr B v v' X Y→Kp m X Y
theorem rounds_size (B:Nat) (v0:Value) (w:World):Rounds B v0 w KpS:=fun _ _ _ _ _ _ _ _ _ _ _ _ _ _ h=>h.size
theorem rounds_tok (B Bt:Nat) (v0:Value) (w:World) (h1:Bt<w.heap.size) (h2:Bt≠B) (h3:v0.ownBlock≠some Bt):Rounds B v0 w (KpT Bt):=fun m n X Y v v' x1 x2 l hB ho hg hm hBm hr=>
 ⟨hr.size,fun k h4 h5=>hr.block k h5 (by omega) (fun e=>by have:=hm k e;omega),fun k o h4 h5=>by
  refine (hr.block k (Array.getElem?_eq_some_iff.1 h4).1 (fun e=>?_) (fun e=>?_)).trans h4
  · subst e;rw[hB] at h4;cases h4;exact h5 (by show (41:TypeId)≠3;decide)
  obtain⟨cur,hc⟩:=ownP_obj ho.1 e
  rw[hc] at h4;cases h4;exact h5 (by show (38:TypeId)≠3;decide),
  hr.block Bt (Nat.lt_of_lt_of_le h1 hg.size) h2 (hg.far h1 h3)⟩

set_option linter.unusedSimpArgs false in
set_option linter.unusedVariables false in
set_option maxHeartbeats 4000000 in
set_option maxRecDepth 20000 in
theorem body_pk (B N Bt b1 n1 c1 b2 n2 c2:Nat) (a1 a2:Option Addr) (fn:FuncId) (eg:Enters Tryz.prog fn) (v x1 x2:Value) (l:List (Int×Int)) (LS LD:List Int) (ts:List Tk) (Kp:Nat→World→World→Prop) (H:World→Prop) (w:World)
 (hB:w.heap[B]?=some (.cells #[v,x1,x2] 41 (0,0))) (hO:OwnX w B v N l) (hN:N≤100000) (hts:ts.length≤5000) (ha1:a1=some ⟨b1,0,none⟩) (ha2:a2=some ⟨b2,0,none⟩)
 (h1:Ints w a1 LS) (h2:Ints w a2 LD) (e1:LS.length=n1) (e2:LD.length=n2) (l1:286≤n1∧n1≤300) (l2:30≤n2∧n2≤300) (o1:Cd.okB LS=true) (o2:Cd.okB LD=true) (q1:b1≠B) (q2:b2≠B)
 (hbt:Bt<w.heap.size) (hit:IterOk fn Bt ts Kp H) (hkp:KpOk Bt Kp) (hH:∀X v',Gr B v v' w X→H X) (hR:∀W,PkSet B w W→Rounds B v W Kp):
 Calls Tryz.prog 17 #[.pointer (some ⟨B,0,none⟩),.func (.func fn) #[] #[.pointer (some ⟨Bt,0,none⟩)],.slice a1 n1 c1,.slice a2 n2 c2] w (BodyEnd B N v l (Df.body LS LD ts) w):=by
 refine (callsIn_wide (n:=2)).1 ?_
 have hro:Fence.wide.round=none:=rfl
 obtain⟨W0,hW0⟩:∃W0,W0=w.alloc (.cells #[.pointer (some ⟨B,0,none⟩)] 36):=⟨_,rfl⟩
 obtain⟨pb,hpb⟩:∃pb,pb=w.heap.size:=⟨_,rfl⟩
 have hBl:B<w.heap.size:=(Array.getElem?_eq_some_iff.1 hB).1
 have b0:Below w.heap.size w W0:=by rw[hW0];exact (Below.refl _ _).alloc (Nat.le_refl _) _
 have hs0:W0.heap.size=w.heap.size+1:=by rw[hW0];simp
 have hB0:=(b0.block B hBl).trans hB
 have hc0:W0.cell? ⟨pb,0,none⟩=some (.pointer (some ⟨B,0,none⟩)):=by rw[hW0,hpb,World.cell?_alloc_at _ _ _ _ rfl];rfl
 have HC1:Hid (∀W:World,Below W0.heap.size W0 W→Calls Tryz.prog 28 #[.slice a1 n1 c1] W fun e w'=>e=.returned (.slice (some ⟨W.heap.size,0,none⟩) n1 n1)∧OwnP w' W.heap.size (.slice (some ⟨W.heap.size,0,none⟩) n1 n1) n1 (Cp.all LS)∧Below W.heap.size W w'):=fun W b=>codeBits_any a1 n1 c1 LS W ((h1.kept b0).kept b) e1 l1.2 o1
 have HI2:Hid (Ints W0 a2 LD):=h2.kept b0
 have HPK:Hid (W0.heap[B]?=some (.cells #[v,x1,x2] 41 (0,0))∧OwnX W0 B v N l∧PkSet B w W0):=⟨hB0,OwnX.below hO b0,PkSet.of b0⟩
 have HO:Hid (OwnX w B v N l):=hO
 have hBW1:B<W0.heap.size:=by omega
 have hpB:pb≠B:=by omega
 have hpW1:pb<W0.heap.size:=by omega
 have HA:Hid (a1=some ⟨b1,0,none⟩∧a2=some ⟨b2,0,none⟩∧LS.length=n1∧LD.length=n2):=⟨ha1,ha2,e1,e2⟩
 have HT:Hid (IterOk fn Bt ts Kp H∧KpOk Bt Kp∧(∀X v',Gr B v v' w X→H X)∧(∀W,PkSet B w W→Rounds B v W Kp)):=⟨hit,hkp,hH,hR⟩
 clear hB hO h1 h2 hB0 b0 ha1 ha2 e1 e2 hit hkp hH hR hs0
 refine callsIn_of_wp_marks Tryz.func17 rfl trivial ?_ hro
 simp only[Tryz.ntmps17,List.size_toArray,List.length_cons,List.length_nil,Nat.reduceAdd,Nat.reduceSub,Array.replicate_succ,Array.replicate_zero,List.push_toArray,List.append_toArray,List.nil_append,List.cons_append]
 gi_wp2
 rw[←hW0,←hpb]
 have HPB:Hid (pb=w.heap.size∧W0.heap.size=w.heap.size+1):=⟨hpb,by rw[hW0];simp⟩
 clear hW0 hpb
 refine Code.wpIn_mono noP_mono (wpIn_wide.2 ?_)
 refine wp_region_held_drew (S:=fun wy=>wy.cell? ⟨pb,0,none⟩=some (.pointer (some ⟨B,0,none⟩))) (by kernel_rfl) hc0 (fun hHeld=>?_)
 refine tkH (i:=0) (v:=(.pointer (some ⟨B,0,none⟩))) rfl (by kernel_rfl) (fun _ _ _ h=>noP_any h) (Or.inl ⟨by rfl,?_⟩) hHeld ?_
 · intro wy hSw
   have q1:=hSw
   go_simp
 try simp only[Act.put,litE]
 refine tkH (i:=1) (v:=(.slice a1 n1 c1)) rfl (by kernel_rfl) (fun _ _ _ h=>noP_any h) (Or.inl ⟨by rfl,?_⟩) hHeld ?_
 · intro wy hSw
   have q1:=hSw
   go_simp
 try simp only[Act.put,litE]
 refine wpAnyH_ready (rs:=[2]) (by kernel_rfl) (by simp) ?_
 refine AllReadyH.cons rfl (fun K hK=>?_) AllReadyH.nil
 go_simp
 refine (HC1.out W0.drew (Below.refl _ _).drew).mono ?_
 rintro e Wx ⟨rfl,hG,b1'⟩
 have bx:Below W0.heap.size W0 Wx:=(Below.refl W0.heap.size W0).drew.trans b1'
 obtain⟨G1,hGe⟩:∃G,G=W0.drew.heap.size:=⟨_,rfl⟩
 rw[←hGe] at hG ⊢
 have hGB:B<G1:=by rw[hGe];exact hBW1
 have hGW1:W0.heap.size≤G1:=by rw[hGe];exact Nat.le_refl _
 clear hGe
 have hxB:=(bx.block B hBW1).trans HPK.out.1
 obtain⟨_,px1,px2,_,pf1,pf2⟩:=pk_cell hxB
 have hcx:=(bx.cell (p:=⟨pb,0,none⟩) hpW1).trans hc0
 have hx2:PkSet B w (Wx.setCell ⟨B,1,none⟩ (.slice (some ⟨G1,0,none⟩) n1 n1)):=(HPK.out.2.2.trans (PkSet.of bx)).trans (PkSet.set _ _ _)
 have hGo:OwnP (Wx.setCell ⟨B,1,none⟩ (.slice (some ⟨G1,0,none⟩) n1 n1)) (B+1) (.slice (some ⟨G1,0,none⟩) n1 n1) n1 _:=(PkSet.set Wx 1 _).own (OwnP.down hG hGB)
 have hcx2:(Wx.setCell ⟨B,1,none⟩ (.slice (some ⟨G1,0,none⟩) n1 n1)).cell? ⟨pb,0,none⟩=some (.pointer (some ⟨B,0,none⟩)):=(World.cell?_of_block (w:=Wx) (a:=⟨pb,0,none⟩) (Below.heap_setCell Wx ⟨B,1,none⟩ _ pb hpB)).trans hcx
 have hsB:=pk_set1 hxB (.slice (some ⟨G1,0,none⟩) n1 n1)
 have hlow:Below W0.heap.size W0 Wx:=bx
 refine hK.out _ _ hcx (fun hHeld=>?_)
 clear hK K
 try simp only[Act.put,litE]
 refine tkH (i:=3) (v:=(.pointer (some ⟨B,0,none⟩))) rfl (by kernel_rfl) (fun _ _ _ h=>noP_any h) (Or.inl ⟨by rfl,?_⟩) hHeld ?_
 · intro wy hSw
   have q1:=hSw
   go_simp
 try simp only[Act.put,litE]
 refine tkH (i:=4) (v:=(.pointer (some ⟨B,1,none⟩))) rfl (by kernel_rfl) (fun _ _ _ h=>noP_any h) (Or.inl ⟨by rfl,?_⟩) hHeld ?_
 · intro wy hSw
   have q1:=hSw
   go_simp
 try simp only[Act.put,litE]
 refine wpAnyH_ready (rs:=[5]) (by kernel_rfl) (by simp) ?_
 refine AllReadyH.cons rfl (fun K hK=>?_) AllReadyH.nil
 go_simp
 refine hK.out _ _ hcx2 (fun hHeld=>?_)
 clear hK K
 refine wpAnyH_done (by kernel_rfl) ?_ _
 try simp only[Act.put,litE]
 refine noP_norm ?_
 obtain⟨X1,hX1⟩:∃X,X=Wx.setCell ⟨B,1,none⟩ (.slice (some ⟨G1,0,none⟩) n1 n1):=⟨_,rfl⟩
 rw[←hX1] at hx2 hGo hcx2 hsB ⊢
 have HP1:Hid (X1.heap[B]?=some (.cells #[v,.slice (some ⟨G1,0,none⟩) n1 n1,x2] 41 (0,0))∧PkSet B w X1∧OwnP X1 (B+1) (.slice (some ⟨G1,0,none⟩) n1 n1) n1 (Cp.all LS)∧PkSet B W0 X1):=⟨hsB,hx2,hGo,by rw[hX1];exact (PkSet.of hlow).trans (PkSet.set _ _ _)⟩
 have hGl1:G1<X1.heap.size:=(World.ownsRow.lt (show World.ownsRow _ _ _ _ _ _ _ from hGo) G1 rfl).2
 have hc1:=hcx2
 have hBW2:B<X1.heap.size:=by omega
 have hpW2:pb<X1.heap.size:=Nat.lt_of_lt_of_le hpW1 (by have:=HP1.out.2.2.2.size;exact this)
 have hGB1:=hGB
 clear hG b1' bx hGB hxB px1 px2 pf1 pf2 hcx hx2 hGo hsB hHeld hX1 hlow hcx2
 have HC2:Hid (∀W:World,Below X1.heap.size X1 W→Calls Tryz.prog 28 #[.slice a2 n2 c2] W fun e w'=>e=.returned (.slice (some ⟨W.heap.size,0,none⟩) n2 n2)∧OwnP w' W.heap.size (.slice (some ⟨W.heap.size,0,none⟩) n2 n2) n2 (Cp.all LD)∧Below W.heap.size W w'):=fun W b=>codeBits_any a2 n2 c2 LD W ((HP1.out.2.2.2.ints HI2.out (fun b off e=>by rw[HA.out.2.1] at e;cases e;exact q2)).kept b) HA.out.2.2.2 l2.2 o2
 have HPK1:Hid (X1.heap[B]?=some (.cells #[v,.slice (some ⟨G1,0,none⟩) n1 n1,x2] 41 (0,0))∧OwnX X1 B v N l∧PkSet B w X1):=⟨HP1.out.1,HP1.out.2.2.2.ownX HPK.out.2.1,HP1.out.2.1⟩
 clear HC1 HI2
 gi_wp2
 refine Code.wpIn_mono noP_mono (wpIn_wide.2 ?_)
 refine wp_region_held_drew (S:=fun wy=>wy.cell? ⟨pb,0,none⟩=some (.pointer (some ⟨B,0,none⟩))) (by kernel_rfl) hc1 (fun hHeld=>?_)
 refine tkH (i:=0) (v:=(.pointer (some ⟨B,0,none⟩))) rfl (by kernel_rfl) (fun _ _ _ h=>noP_any h) (Or.inl ⟨by rfl,?_⟩) hHeld ?_
 · intro wy hSw
   have q1:=hSw
   go_simp
 try simp only[Act.put,litE]
 refine tkH (i:=1) (v:=(.slice a2 n2 c2)) rfl (by kernel_rfl) (fun _ _ _ h=>noP_any h) (Or.inl ⟨by rfl,?_⟩) hHeld ?_
 · intro wy hSw
   have q1:=hSw
   go_simp
 try simp only[Act.put,litE]
 refine wpAnyH_ready (rs:=[2]) (by kernel_rfl) (by simp) ?_
 refine AllReadyH.cons rfl (fun K hK=>?_) AllReadyH.nil
 go_simp
 refine (HC2.out X1.drew (Below.refl _ _).drew).mono ?_
 rintro e Wx ⟨rfl,hG,b1'⟩
 have bx:Below X1.heap.size X1 Wx:=(Below.refl X1.heap.size X1).drew.trans b1'
 obtain⟨G2,hGe⟩:∃G,G=X1.drew.heap.size:=⟨_,rfl⟩
 rw[←hGe] at hG ⊢
 have hGB:B<G2:=by rw[hGe];exact hBW2
 have hGW2:X1.heap.size≤G2:=by rw[hGe];exact Nat.le_refl _
 clear hGe
 have hxB:=(bx.block B hBW2).trans HPK1.out.1
 obtain⟨_,px1,px2,_,pf1,pf2⟩:=pk_cell hxB
 have hcx:=(bx.cell (p:=⟨pb,0,none⟩) hpW2).trans hc1
 have hx2:PkSet B w (Wx.setCell ⟨B,2,none⟩ (.slice (some ⟨G2,0,none⟩) n2 n2)):=(HPK1.out.2.2.trans (PkSet.of bx)).trans (PkSet.set _ _ _)
 have hGo:OwnP (Wx.setCell ⟨B,2,none⟩ (.slice (some ⟨G2,0,none⟩) n2 n2)) (B+1) (.slice (some ⟨G2,0,none⟩) n2 n2) n2 _:=(PkSet.set Wx 2 _).own (OwnP.down hG hGB)
 have hcx2:(Wx.setCell ⟨B,2,none⟩ (.slice (some ⟨G2,0,none⟩) n2 n2)).cell? ⟨pb,0,none⟩=some (.pointer (some ⟨B,0,none⟩)):=(World.cell?_of_block (w:=Wx) (a:=⟨pb,0,none⟩) (Below.heap_setCell Wx ⟨B,2,none⟩ _ pb hpB)).trans hcx
 have hsB:=pk_set2 hxB (.slice (some ⟨G2,0,none⟩) n2 n2)
 have hlow:Below X1.heap.size X1 Wx:=bx
 refine hK.out _ _ hcx (fun hHeld=>?_)
 clear hK K
 try simp only[Act.put,litE]
 refine tkH (i:=3) (v:=(.pointer (some ⟨B,0,none⟩))) rfl (by kernel_rfl) (fun _ _ _ h=>noP_any h) (Or.inl ⟨by rfl,?_⟩) hHeld ?_
 · intro wy hSw
   have q1:=hSw
   go_simp
 try simp only[Act.put,litE]
 refine tkH (i:=4) (v:=(.pointer (some ⟨B,2,none⟩))) rfl (by kernel_rfl) (fun _ _ _ h=>noP_any h) (Or.inl ⟨by rfl,?_⟩) hHeld ?_
 · intro wy hSw
   have q1:=hSw
   go_simp
 try simp only[Act.put,litE]
 refine wpAnyH_ready (rs:=[5]) (by kernel_rfl) (by simp) ?_
 refine AllReadyH.cons rfl (fun K hK=>?_) AllReadyH.nil
 go_simp
 refine hK.out _ _ hcx2 (fun hHeld=>?_)
 clear hK K
 refine wpAnyH_done (by kernel_rfl) ?_ _
 try simp only[Act.put,litE]
 refine noP_norm ?_
 obtain⟨X2,hX2⟩:∃X,X=Wx.setCell ⟨B,2,none⟩ (.slice (some ⟨G2,0,none⟩) n2 n2):=⟨_,rfl⟩
 rw[←hX2] at hx2 hGo hcx2 hsB ⊢
 have HP2:Hid (X2.heap[B]?=some (.cells #[v,.slice (some ⟨G1,0,none⟩) n1 n1,.slice (some ⟨G2,0,none⟩) n2 n2] 41 (0,0))∧PkSet B w X2∧OwnP X2 (B+1) (.slice (some ⟨G2,0,none⟩) n2 n2) n2 (Cp.all LD)∧PkSet B X1 X2):=⟨hsB,hx2,hGo,by rw[hX2];exact (PkSet.of hlow).trans (PkSet.set _ _ _)⟩
 have hGl2:G2<X2.heap.size:=(World.ownsRow.lt (show World.ownsRow _ _ _ _ _ _ _ from hGo) G2 rfl).2
 have hc2:=hcx2
 have hBW3:B<X2.heap.size:=by omega
 have hpW3:pb<X2.heap.size:=Nat.lt_of_lt_of_le hpW2 (by have:=HP2.out.2.2.2.size;exact this)
 have hGB2:=hGB
 clear hG b1' bx hGB hxB px1 px2 pf1 pf2 hcx hx2 hGo hsB hHeld hX2 hlow hcx2
 gi_wp2
 have HPV:Hid (X2.heap[B]?=some (.cells #[v,.slice (some ⟨G1,0,none⟩) n1 n1,.slice (some ⟨G2,0,none⟩) n2 n2] 41 (0,0))∧OwnX X2 B v N l∧PkSet B w X2):=⟨HP2.out.1,HP2.out.2.2.2.ownX HPK1.out.2.1,HP2.out.2.1⟩
 have hvw:∀k,v.ownBlock=some k→0≤k∧k<w.heap.size:=fun k e=>World.ownsRow.lt (show World.ownsRow _ _ _ _ _ _ _ from HO.out.1) k e
 have hws:=HPV.out.2.2.size
 have hG1w:w.heap.size≤G1:=by have:=HPB.out.2;omega
 have hG2w:w.heap.size≤G2:=by have:=HPB.out.2;have:=HP1.out.2.1.size;omega
 have HCD1:Hid (Code1 X2 B v G1 n1 LS):=code1_of (HP2.out.2.2.2.own HP1.out.2.2.1) HA.out.2.2.1 l1.2 (by omega) (fun e=>by have:=(hvw _ e).2;omega)
 have HCD2:Hid (Code1 X2 B v G2 n2 LD):=code1_of HP2.out.2.2.1 HA.out.2.2.2 l2.2 (by omega) (fun e=>by have:=(hvw _ e).2;omega)
 have HVW:Hid (∀k,v.ownBlock=some k→0≤k∧k<w.heap.size):=hvw
 have hbtX:Bt<X2.heap.size:=by omega
 have hpv:v.ownBlock≠some pb:=fun e=>by have:=(hvw _ e).2;have:=HPB.out.1;omega
 have HPBV:Hid (v.ownBlock≠some pb):=hpv
 have HG0:Hid (Gr B v v w X2):=HPV.out.2.2.gr HO.out
 clear hvw hpv HP1 HP2 HPK HPK1 HC2
 refine rangeIt (w:=X2) (base:=X2.heap.size) (J:=JB B N v l LS LD (.slice (some ⟨G1,0,none⟩) n1 n1) (.slice (some ⟨G2,0,none⟩) n2 n2) X2) HT.out.1 HT.out.2.1 eg (fun _=>trivial) ?hgr ?htn ?hJH (Nat.le_refl _) ?hJm rfl rfl ?h0 hbtX
  (fun x W=>{ tmps:=#[.pointer (some ⟨B,0,none⟩),.func (.func fn) #[] #[.pointer (some ⟨Bt,0,none⟩)],.slice a1 n1 c1,.slice a2 n2 c2,.pointer (some ⟨pb,0,none⟩),undef,undef,undef,.pointer (some ⟨W.heap.size,0,none⟩),.pointer (some ⟨B,0,none⟩),.slice a1 n1 c1,.slice (some ⟨G1,0,none⟩) n1 n1,.pointer (some ⟨B,0,none⟩),.pointer (some ⟨B,1,none⟩),.pointer (some ⟨B,0,none⟩),.slice a2 n2 c2,.slice (some ⟨G2,0,none⟩) n2 n2,.pointer (some ⟨B,0,none⟩),.pointer (some ⟨B,2,none⟩),.func (.func fn) #[] #[.pointer (some ⟨Bt,0,none⟩)],tkV x,undef,undef,undef,undef,undef,undef,undef,undef,undef,undef,undef,undef,undef,undef,undef,undef,undef,undef],defers:=[] }) ?assign ?body ?done
 case hgr=>
  rintro pre m X Y row ⟨v1,h1,h2⟩ hg hr
  exact⟨v1,h1.grown rfl hBW3 hg hr,h2⟩
 case htn=>
  rintro pre m C X Y ⟨v1,h1,h2⟩ hC ht
  exact⟨v1,h1.turn hBW3 hC ht,h2⟩
 case hJH=>
  rintro pre m X ⟨v1,h1,h2⟩
  exact HT.out.2.2.1 X v1 (HG0.out.trans h1.2.2)
 case hJm=>
  rintro m m' X ⟨v1,h1,h2⟩ hm
  exact⟨v1,h1,fun j e=>Nat.lt_of_lt_of_le (h2 j e) hm⟩
 case h0=>
  refine⟨v,⟨HPV.out.1,by have h:=HPV.out.2.1;simpa [Df.toks] using h,Gr.refl HPV.out.2.1⟩,fun j e=>?_⟩
  have:=(HVW.out j e).2
  omega
 case assign=>
  intro l' x W K hK
  dsimp only[tkV] at hK ⊢
  gi_wp2
  exact hK
 case body=>
  rintro l' pre ⟨t0,t1,t2⟩ m W Wb hok ⟨v1,hPD,hvm⟩ hm3 hmW hWb hx hlen
  dsimp only at hx
  have hcx:Wb.cell? ⟨W.heap.size,0,none⟩=some (.int .i64 t0)∧Wb.cell? ⟨W.heap.size,1,none⟩=some (.int .i64 t1)∧Wb.cell? ⟨W.heap.size,2,none⟩=some (.int .i64 t2):=by
   refine⟨?_,?_,?_⟩<;>simp[World.cell?,hx]
  obtain⟨e0,e1,e2⟩:=hcx
  have ep:Wb.cell? ⟨pb,0,none⟩=some (.pointer (some ⟨B,0,none⟩)):=(hPD.2.2.cell (a:=⟨pb,0,none⟩) hpW3 hpB HPBV.out).trans hc2
  have hlt:=Df.toks_len LS LD pre
  have HTK:Hid (Calls Tryz.prog 29 #[.pointer (some ⟨B,0,none⟩),.agg #[.int .i64 t0,.int .i64 t1,.int .i64 t2]] Wb (PkEnd B (.slice (some ⟨G1,0,none⟩) n1 n1) (.slice (some ⟨G2,0,none⟩) n2 n2) v1 (N+(Df.toks LS LD pre).length+(Df.tok LS LD (t0,t1,t2)).length) (l++Df.toks LS LD pre++Df.tok LS LD (t0,t1,t2)) Wb)):=token_pk B _ G1 n1 n1 G2 n2 n2 (t0,t1,t2) v1 _ LS LD Wb hPD.1 hPD.2.1 (by omega) (HCD1.out.gr hPD.2.2) (HCD2.out.gr hPD.2.2) l1.1 l2.1 hok
  have HPD:Hid (PkDone B (.slice (some ⟨G1,0,none⟩) n1 n1) (.slice (some ⟨G2,0,none⟩) n2 n2) v (N+(Df.toks LS LD pre).length) (l++Df.toks LS LD pre) X2 v1 Wb∧(∀j,v1.ownBlock=some j→j<m)∧B<m):=⟨hPD,hvm,by omega⟩
  have HTS:Hid (Df.toks LS LD (pre++[(t0,t1,t2)])=Df.toks LS LD pre++Df.tok LS LD (t0,t1,t2)):=Df.toks_snoc _ _ _ _
  clear hPD hvm hx hok hlt hWb
  gi_wp2
  refine⟨trivial,rfl,?_⟩
  refine (CallsIn.inRound l' (callsIn_wide.2 HTK.out)).mono ?_
  rintro e w2 ⟨⟨r,rfl⟩,v2,hD2⟩
  have HF:Hid (itPost Kp (JB B N v l LS LD (.slice (some ⟨G1,0,none⟩) n1 n1) (.slice (some ⟨G2,0,none⟩) n2 n2) X2) X2.heap.size m (pre++[(t0,t1,t2)]) Wb .normal ⟨#[],[]⟩ w2):=by
   refine⟨hD2.2.2.keeps HPD.out.1.1 HPD.out.1.2.1,HT.out.2.2.2 X2 HPV.out.2.2 m _ Wb w2 v1 v2 _ _ _ HPD.out.1.1 HPD.out.1.2.1 HPD.out.1.2.2 HPD.out.2.1 HPD.out.2.2 hD2.2.2,v2,⟨hD2.1,?_,HPD.out.1.2.2.trans hD2.2.2⟩,fun j e=>(hD2.2.2.own j e).2⟩
   have h:=hD2.2.1
   rw[HTS.out,List.length_append,←Nat.add_assoc,←List.append_assoc]
   exact h
  clear hD2 HPD HTS HTK
  gi_wp2
  exact HF.out
 case done=>
  rintro D W m hD ⟨v1,hPD,_⟩ hK
  gi_wp2
  have ep:W.cell? ⟨pb,0,none⟩=some (.pointer (some ⟨B,0,none⟩)):=(hPD.2.2.cell (a:=⟨pb,0,none⟩) hpW3 hpB HPBV.out).trans hc2
  have HPK:Hid (W.heap[B]?=some (.cells #[v1,.slice (some ⟨G1,0,none⟩) n1 n1,.slice (some ⟨G2,0,none⟩) n2 n2] 41 (0,0))∧OwnX W B v1 (N+(Df.toks LS LD ts).length) (l++Df.toks LS LD ts)):=⟨hPD.1,hPD.2.1⟩
  have hcd:=HCD1.out.gr hPD.2.2
  obtain⟨k1,k2⟩:=hcd.cell 256 (by omega)
  have hgW:=hcd.lt
  have hsW:=hPD.2.2.size
  have hBW:B<W.heap.size:=by omega
  have hpW:pb<W.heap.size:=by omega
  obtain⟨pc0,pc1,_,_,_,_⟩:=pk_cell hPD.1
  have HGR:Hid (Gr B v v1 w W∧W.heap[D]?=some (.deferred (some []))):=⟨HG0.out.trans hPD.2.2,hK⟩
  have HPF:Hid (v1.ownBlock≠some pb∧v1.ownBlock≠some G1∧G1≠B):=⟨hPD.2.2.far hpW3 HPBV.out,hcd.far,hcd.ne⟩
  have hlt:=Df.toks_len LS LD ts
  have HBD:Hid (Df.body LS LD ts=Df.toks LS LD ts++[((Cp.bit LS 256).1,(Cp.bit LS 256).2)]):=rfl
  have h256:(256:Int)<(n1:Int):=by omega
  generalize (Cp.bit LS 256).1=u1 at*
  generalize (Cp.bit LS 256).2=u2 at*
  obtain⟨TL,hTL⟩:∃TL,TL=Df.toks LS LD ts:=⟨_,rfl⟩
  rw[←hTL] at HPK HBD hlt
  obtain⟨M,hM⟩:∃M,M=N+TL.length:=⟨_,rfl⟩
  rw[←hM] at HPK
  have HM:Hid (M=N+TL.length):=hM
  have hMb:M≤200000:=by omega
  obtain⟨lt,hlte⟩:∃lt,lt=l++TL:=⟨_,rfl⟩
  rw[←hlte] at HPK
  have HLT:Hid (lt=l++TL):=hlte
  clear hPD hK hcd hTL hM hlte hc0 hc1 hc2 hpW1 hpW2 hpW3 hBW1 hBW2 hBW3
  refine Code.wpIn_mono noP_mono (wpIn_wide.2 ?_)
  have hmain:∀wz,wz=(W.alloc (.cells #[.int .i64 u1,.int .i64 u2] 38)).drew→Below W.heap.size W wz∧(∀j u,(cellsOf [(u1,u2)])[j]?=some u→wz.cell? ⟨W.heap.size,j,none⟩=some u):=fun wz h=>by
   subst h
   obtain⟨b,e,_,hc⟩:=layPs_new W [(u1,u2)]
   cases e
   exact⟨((Below.refl _ _).alloc (Nat.le_refl _) _).drew,hc⟩
  have HMN:Hid (∀wz,wz=(W.alloc (.cells #[.int .i64 u1,.int .i64 u2] 38)).drew→Below W.heap.size W wz∧(∀j u,(cellsOf [(u1,u2)])[j]?=some u→wz.cell? ⟨W.heap.size,j,none⟩=some u)):=hmain
  clear hmain
  refine wp_region_held_drew (S:=fun wy=>wy.cell? ⟨pb,0,none⟩=some (.pointer (some ⟨B,0,none⟩))∧wy.cell? ⟨B,1,none⟩=some (.slice (some ⟨G1,0,none⟩) n1 n1)∧wy.cell? ⟨G1,512,none⟩=some (.int .i64 u1)∧wy.cell? ⟨G1,513,none⟩=some (.int .i64 u2)) (by kernel_rfl) ⟨ep,pc1,k1,k2⟩ (fun hHeld=>?_)
  refine tkH (i:=0) (v:=(.pointer (some ⟨B,0,none⟩))) rfl (by kernel_rfl) (fun _ _ _ h=>noP_any h) (Or.inl ⟨by rfl,?_⟩) hHeld ?_
  · intro wy hSw
    obtain⟨s1,s2,s3,s4⟩:=hSw
    go_simp
  try simp only[Act.put,litE]
  refine tkH (i:=1) (v:=(.pointer (some ⟨B,0,none⟩))) rfl (by kernel_rfl) (fun _ _ _ h=>noP_any h) (Or.inl ⟨by rfl,?_⟩) hHeld ?_
  · intro wy hSw
    obtain⟨s1,s2,s3,s4⟩:=hSw
    go_simp
  try simp only[Act.put,litE]
  refine tkH (i:=2) (v:=(.pointer (some ⟨B,0,none⟩))) rfl (by kernel_rfl) (fun _ _ _ h=>noP_any h) (Or.inl ⟨by rfl,?_⟩) hHeld ?_
  · intro wy hSw
    obtain⟨s1,s2,s3,s4⟩:=hSw
    go_simp
  try simp only[Act.put,litE]
  refine tkH (i:=3) (v:=(.pointer (some ⟨B,0,none⟩))) rfl (by kernel_rfl) (fun _ _ _ h=>noP_any h) (Or.inl ⟨by rfl,?_⟩) hHeld ?_
  · intro wy hSw
    obtain⟨s1,s2,s3,s4⟩:=hSw
    go_simp
  try simp only[Act.put,litE]
  refine tkH (i:=5) (v:=(.pointer (some ⟨B,0,none⟩))) rfl (by kernel_rfl) (fun _ _ _ h=>noP_any h) (Or.inl ⟨by rfl,?_⟩) hHeld ?_
  · intro wy hSw
    obtain⟨s1,s2,s3,s4⟩:=hSw
    go_simp
  try simp only[Act.put,litE]
  refine tkH (i:=6) (v:=(.pointer (some ⟨B,0,none⟩))) rfl (by kernel_rfl) (fun _ _ _ h=>noP_any h) (Or.inl ⟨by rfl,?_⟩) hHeld ?_
  · intro wy hSw
    obtain⟨s1,s2,s3,s4⟩:=hSw
    go_simp
  try simp only[Act.put,litE]
  refine tkH (i:=7) (v:=(.pointer (some ⟨B,1,none⟩))) rfl (by kernel_rfl) (fun _ _ _ h=>noP_any h) (Or.inl ⟨by rfl,?_⟩) hHeld ?_
  · intro wy hSw
    obtain⟨s1,s2,s3,s4⟩:=hSw
    go_simp
  try simp only[Act.put,litE]
  refine tkH (i:=8) (v:=(.slice (some ⟨G1,0,none⟩) n1 n1)) rfl (by kernel_rfl) (fun _ _ _ h=>noP_any h) (Or.inl ⟨by rfl,?_⟩) hHeld ?_
  · intro wy hSw
    obtain⟨s1,s2,s3,s4⟩:=hSw
    go_simp
  try simp only[Act.put,litE]
  refine tkH (i:=9) (v:=(.pointer (some ⟨G1,512,none⟩))) rfl (by kernel_rfl) (fun _ _ _ h=>noP_any h) (Or.inl ⟨by rfl,?_⟩) hHeld ?_
  · intro wy hSw
    obtain⟨s1,s2,s3,s4⟩:=hSw
    go_simp
  try simp only[Act.put,litE]
  refine tkH (i:=10) (v:=(.agg #[.int .i64 u1,.int .i64 u2])) rfl (by kernel_rfl) (fun _ _ _ h=>noP_any h) (Or.inl ⟨by rfl,?_⟩) hHeld ?_
  · intro wy hSw
    obtain⟨s1,s2,s3,s4⟩:=hSw
    go_simp
  try simp only[Act.put,litE]
  have hSz:∀o:Obj,(W.alloc o).cell? ⟨pb,0,none⟩=some (.pointer (some ⟨B,0,none⟩))∧(W.alloc o).cell? ⟨B,1,none⟩=some (.slice (some ⟨G1,0,none⟩) n1 n1)∧(W.alloc o).cell? ⟨G1,512,none⟩=some (.int .i64 u1)∧(W.alloc o).cell? ⟨G1,513,none⟩=some (.int .i64 u2):=fun o=>by
   have b:=(Below.refl W.heap.size W).alloc (Nat.le_refl _) o
   exact⟨(b.cell (p:=⟨pb,0,none⟩) hpW).trans ep,(b.cell (p:=⟨B,1,none⟩) hBW).trans pc1,(b.cell (p:=⟨G1,512,none⟩) hgW).trans k1,(b.cell (p:=⟨G1,513,none⟩) hgW).trans k2⟩
  have pcz:∀o:Obj,(W.alloc o).cell? ⟨B,0,none⟩=some v1:=fun o=>(((Below.refl W.heap.size W).alloc (Nat.le_refl _) o).cell (p:=⟨B,0,none⟩) hBW).trans pc0
  refine wpAnyH_ready (rs:=[4,11]) (by kernel_rfl) (by simp) ?_
  refine AllReadyH.cons rfl (fun K hK=>?_) (AllReadyH.cons rfl (fun K hK=>?_) AllReadyH.nil)
  · go_simp
    refine hK.out _ _ hHeld (fun hHeld=>?_)
    clear hK K
    try simp only[Act.put,litE]
    refine wpAnyH_ready (rs:=[11]) (by kernel_rfl) (by simp) ?_
    refine AllReadyH.cons rfl (fun K hK=>?_) AllReadyH.nil
    go_simp
    refine hK.out _ _ (hSz _) (fun hHeld=>?_)
    clear hK K
    try simp only[Act.put,litE]
    obtain⟨wz,hwz⟩:∃wz,wz=(W.alloc (.cells #[.int .i64 u1,.int .i64 u2] 38)).drew:=⟨_,rfl⟩
    rw[←hwz]
    obtain⟨bz,hCz⟩:=HMN.out wz hwz
    obtain⟨Bn,hBn⟩:∃Bn,Bn=W.heap.size:=⟨_,rfl⟩
    have HBZ:Hid (Below W.heap.size W wz):=bz
    rw[←hBn] at hCz ⊢
    clear hwz bz hBn hSz pcz
    refine wpAnyH_ready (rs:=[12]) (by kernel_rfl) (by simp) ?_
    refine AllReadyH.cons rfl (fun K hK=>?_) AllReadyH.nil
    refine step_appL wz rfl _ _ rfl 0 v1 M lt [(u1,u2)] Bn 1 rfl (by omega) rfl (OwnP.below HPK.out.2.1 HBZ.out) rfl hCz (by omega) (Nat.zero_le _) ?_
    intro g2 cap2 w2 ho2 hg2 hat2 hlt2
    have HD:Hid (PkDone B (.slice (some ⟨G1,0,none⟩) n1 n1) (.slice (some ⟨G2,0,none⟩) n2 n2) v1 (M+1) (lt++[(u1,u2)]) W (.slice (some ⟨g2,0,none⟩) (M+1) cap2) (w2.setCell ⟨B,0,none⟩ (.slice (some ⟨g2,0,none⟩) (M+1) cap2))):=pk_done HPK.out.1 HPK.out.2 HBZ.out hg2 hat2 hlt2 ho2
    obtain⟨pc2,pf2⟩:=pk_at2 HPK.out.1 HPK.out.2 HBZ.out hg2
    have hfar:∀a:Addr,a.block<W.heap.size→v1.ownBlock≠some a.block→w2.cell? a=W.cell? a:=fun a h1 h2=>(World.cell?_of_block (w:=wz) (a:=a) (hg2.block a.block (Nat.lt_of_lt_of_le h1 HBZ.out.size) (fun e=>h2 e.symm))).trans (HBZ.out.cell (p:=a) h1)
    have hvB:v1.ownBlock≠some B:=pk_far HPK.out.2
    have z1:w2.cell? ⟨pb,0,none⟩=some (.pointer (some ⟨B,0,none⟩)):=(hfar ⟨pb,0,none⟩ hpW HPF.out.1).trans ep
    have z2:w2.cell? ⟨B,1,none⟩=some (.slice (some ⟨G1,0,none⟩) n1 n1):=(hfar ⟨B,1,none⟩ hBW hvB).trans pc1
    have z3:w2.cell? ⟨G1,512,none⟩=some (.int .i64 u1):=(hfar ⟨G1,512,none⟩ hgW HPF.out.2.1).trans k1
    have z4:w2.cell? ⟨G1,513,none⟩=some (.int .i64 u2):=(hfar ⟨G1,513,none⟩ hgW HPF.out.2.1).trans k2
    have hset:∀a:Addr,a.block≠B→(w2.setCell ⟨B,0,none⟩ (.slice (some ⟨g2,0,none⟩) (M+1) cap2)).cell? a=w2.cell? a:=fun a h=>World.cell?_of_block (w:=w2) (a:=a) (Below.heap_setCell w2 ⟨B,0,none⟩ _ a.block h)
    have y1':=(hset ⟨pb,0,none⟩ hpB).trans z1
    have y2':=(pk_cell HD.out.1).2.1
    have y3':=(hset ⟨G1,512,none⟩ HPF.out.2.2).trans z3
    have y4':=(hset ⟨G1,513,none⟩ HPF.out.2.2).trans z4
    clear ho2 hg2 hat2 hlt2 hfar hset hvB
    refine hK.out _ _ ⟨z1,z2,z3,z4⟩ (fun hHeld=>?_)
    clear hK K
    try simp only[Act.put,litE]
    refine tkH (i:=13) (v:=(.pointer (some ⟨B,0,none⟩))) rfl (by kernel_rfl) (fun _ _ _ h=>noP_any h) (Or.inl ⟨by rfl,?_⟩) hHeld ?_
    · intro wy hSw
      obtain⟨s1,s2,s3,s4⟩:=hSw
      go_simp
    try simp only[Act.put,litE]
    refine tkH (i:=14) (v:=(.pointer (some ⟨B,0,none⟩))) rfl (by kernel_rfl) (fun _ _ _ h=>noP_any h) (Or.inl ⟨by rfl,?_⟩) hHeld ?_
    · intro wy hSw
      obtain⟨s1,s2,s3,s4⟩:=hSw
      go_simp
    try simp only[Act.put,litE]
    refine wpAnyH_ready (rs:=[15]) (by kernel_rfl) (by simp) ?_
    refine AllReadyH.cons rfl (fun K hK=>?_) AllReadyH.nil
    go_simp
    refine hK.out _ _ ⟨y1',y2',y3',y4'⟩ (fun hHeld=>?_)
    clear hK K
    refine wpAnyH_done (by kernel_rfl) ?_ _
    try simp only[Act.put,litE]
    refine noP_norm ?_
    have HRES:Hid (PkDone B (.slice (some ⟨G1,0,none⟩) n1 n1) (.slice (some ⟨G2,0,none⟩) n2 n2) v (N+(Df.body LS LD ts).length) (l++Df.body LS LD ts) w (.slice (some ⟨g2,0,none⟩) (M+1) cap2) (w2.setCell ⟨B,0,none⟩ (.slice (some ⟨g2,0,none⟩) (M+1) cap2))):=by
     refine⟨HD.out.1,?_,HGR.out.1.trans HD.out.2.2⟩
     have h:=HD.out.2.1
     rw[HBD.out,←List.append_assoc,←HLT.out,List.length_append,List.length_singleton,←Nat.add_assoc,←HM.out]
     exact h
    have HKD:Hid ((w2.setCell ⟨B,0,none⟩ (.slice (some ⟨g2,0,none⟩) (M+1) cap2)).heap[D]?=some (.deferred (some []))):=(HD.out.2.2.keeps (C:=0) HPK.out.1 HPK.out.2).same D _ (Nat.zero_le _) HGR.out.2 rfl
    refine⟨by simp,.inl ⟨_,_,rfl,run_takeDeferred HKD.out,?_⟩⟩
    exact⟨_,results_none rfl _ _ _,⟨_,rfl⟩,_,_,_,HRES.out.grown rfl hBl (grownBy_putObj' _ D _) (fun r e=>by cases e;exact⟨by omega,_,HKD.out,rfl⟩)⟩
  go_simp
  refine hK.out _ _ (hSz _) (fun hHeld=>?_)
  clear hK K
  try simp only[Act.put,litE]
  refine wpAnyH_ready (rs:=[4]) (by kernel_rfl) (by simp) ?_
  refine AllReadyH.cons rfl (fun K hK=>?_) AllReadyH.nil
  have pcz1:=pcz (.cells #[.int .i64 u1,.int .i64 u2] 38)
  go_simp
  refine hK.out _ _ (hSz _) (fun hHeld=>?_)
  clear hK K
  try simp only[Act.put,litE]
  obtain⟨wz,hwz⟩:∃wz,wz=(W.alloc (.cells #[.int .i64 u1,.int .i64 u2] 38)).drew:=⟨_,rfl⟩
  rw[←hwz]
  obtain⟨bz,hCz⟩:=HMN.out wz hwz
  obtain⟨Bn,hBn⟩:∃Bn,Bn=W.heap.size:=⟨_,rfl⟩
  have HBZ:Hid (Below W.heap.size W wz):=bz
  rw[←hBn] at hCz ⊢
  clear hwz bz hBn hSz pcz
  refine wpAnyH_ready (rs:=[12]) (by kernel_rfl) (by simp) ?_
  refine AllReadyH.cons rfl (fun K hK=>?_) AllReadyH.nil
  refine step_appL wz rfl _ _ rfl 0 v1 M lt [(u1,u2)] Bn 1 rfl (by omega) rfl (OwnP.below HPK.out.2.1 HBZ.out) rfl hCz (by omega) (Nat.zero_le _) ?_
  intro g2 cap2 w2 ho2 hg2 hat2 hlt2
  have HD:Hid (PkDone B (.slice (some ⟨G1,0,none⟩) n1 n1) (.slice (some ⟨G2,0,none⟩) n2 n2) v1 (M+1) (lt++[(u1,u2)]) W (.slice (some ⟨g2,0,none⟩) (M+1) cap2) (w2.setCell ⟨B,0,none⟩ (.slice (some ⟨g2,0,none⟩) (M+1) cap2))):=pk_done HPK.out.1 HPK.out.2 HBZ.out hg2 hat2 hlt2 ho2
  obtain⟨pc2,pf2⟩:=pk_at2 HPK.out.1 HPK.out.2 HBZ.out hg2
  have hfar:∀a:Addr,a.block<W.heap.size→v1.ownBlock≠some a.block→w2.cell? a=W.cell? a:=fun a h1 h2=>(World.cell?_of_block (w:=wz) (a:=a) (hg2.block a.block (Nat.lt_of_lt_of_le h1 HBZ.out.size) (fun e=>h2 e.symm))).trans (HBZ.out.cell (p:=a) h1)
  have hvB:v1.ownBlock≠some B:=pk_far HPK.out.2
  have z1:w2.cell? ⟨pb,0,none⟩=some (.pointer (some ⟨B,0,none⟩)):=(hfar ⟨pb,0,none⟩ hpW HPF.out.1).trans ep
  have z2:w2.cell? ⟨B,1,none⟩=some (.slice (some ⟨G1,0,none⟩) n1 n1):=(hfar ⟨B,1,none⟩ hBW hvB).trans pc1
  have z3:w2.cell? ⟨G1,512,none⟩=some (.int .i64 u1):=(hfar ⟨G1,512,none⟩ hgW HPF.out.2.1).trans k1
  have z4:w2.cell? ⟨G1,513,none⟩=some (.int .i64 u2):=(hfar ⟨G1,513,none⟩ hgW HPF.out.2.1).trans k2
  have hset:∀a:Addr,a.block≠B→(w2.setCell ⟨B,0,none⟩ (.slice (some ⟨g2,0,none⟩) (M+1) cap2)).cell? a=w2.cell? a:=fun a h=>World.cell?_of_block (w:=w2) (a:=a) (Below.heap_setCell w2 ⟨B,0,none⟩ _ a.block h)
  have y1':=(hset ⟨pb,0,none⟩ hpB).trans z1
  have y2':=(pk_cell HD.out.1).2.1
  have y3':=(hset ⟨G1,512,none⟩ HPF.out.2.2).trans z3
  have y4':=(hset ⟨G1,513,none⟩ HPF.out.2.2).trans z4
  clear ho2 hg2 hat2 hlt2 hfar hset hvB
  refine hK.out _ _ ⟨z1,z2,z3,z4⟩ (fun hHeld=>?_)
  clear hK K
  try simp only[Act.put,litE]
  refine tkH (i:=13) (v:=(.pointer (some ⟨B,0,none⟩))) rfl (by kernel_rfl) (fun _ _ _ h=>noP_any h) (Or.inl ⟨by rfl,?_⟩) hHeld ?_
  · intro wy hSw
    obtain⟨s1,s2,s3,s4⟩:=hSw
    go_simp
  try simp only[Act.put,litE]
  refine tkH (i:=14) (v:=(.pointer (some ⟨B,0,none⟩))) rfl (by kernel_rfl) (fun _ _ _ h=>noP_any h) (Or.inl ⟨by rfl,?_⟩) hHeld ?_
  · intro wy hSw
    obtain⟨s1,s2,s3,s4⟩:=hSw
    go_simp
  try simp only[Act.put,litE]
  refine wpAnyH_ready (rs:=[15]) (by kernel_rfl) (by simp) ?_
  refine AllReadyH.cons rfl (fun K hK=>?_) AllReadyH.nil
  go_simp
  refine hK.out _ _ ⟨y1',y2',y3',y4'⟩ (fun hHeld=>?_)
  clear hK K
  refine wpAnyH_done (by kernel_rfl) ?_ _
  try simp only[Act.put,litE]
  refine noP_norm ?_
  have HRES:Hid (PkDone B (.slice (some ⟨G1,0,none⟩) n1 n1) (.slice (some ⟨G2,0,none⟩) n2 n2) v (N+(Df.body LS LD ts).length) (l++Df.body LS LD ts) w (.slice (some ⟨g2,0,none⟩) (M+1) cap2) (w2.setCell ⟨B,0,none⟩ (.slice (some ⟨g2,0,none⟩) (M+1) cap2))):=by
   refine⟨HD.out.1,?_,HGR.out.1.trans HD.out.2.2⟩
   have h:=HD.out.2.1
   rw[HBD.out,←List.append_assoc,←HLT.out,List.length_append,List.length_singleton,←Nat.add_assoc,←HM.out]
   exact h
  have HKD:Hid ((w2.setCell ⟨B,0,none⟩ (.slice (some ⟨g2,0,none⟩) (M+1) cap2)).heap[D]?=some (.deferred (some []))):=(HD.out.2.2.keeps (C:=0) HPK.out.1 HPK.out.2).same D _ (Nat.zero_le _) HGR.out.2 rfl
  refine⟨by simp,.inl ⟨_,_,rfl,run_takeDeferred HKD.out,?_⟩⟩
  exact⟨_,results_none rfl _ _ _,⟨_,rfl⟩,_,_,_,HRES.out.grown rfl hBl (grownBy_putObj' _ D _) (fun r e=>by cases e;exact⟨by omega,_,HKD.out,rfl⟩)⟩
end Go.Proofs.YtejebodgfoihkaaGreat
