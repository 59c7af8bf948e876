/- The tokens of a text as bits, as the specification has them. -/
import Derived.Test.YtejebodgfoihkaaGreatKFInflateTwox0a
import Derived.Test.YtejebodgfoihkaaGreatKFInflateTwox0
import Derived.Test.YtejebodgfoihkaaGreatKFInflateTwox1
import Derived.Test.YtejebodgfoihkaaGreatVFInflateTwoEachReg
namespace Go.Proofs.YtejebodgfoihkaaGreat
open Go.RowKit

theorem ints_arrD (w:World) (l:List Int) (T:TypeId):Ints (w.alloc (.cells (arr l) T)) (some ⟨w.heap.size,0,none⟩) l:=by
 refine .inr ⟨w.heap.size,0,rfl,by simp,fun i hi=>?_⟩
 rw[Nat.zero_add,World.cell?_alloc_at _ _ _ _ rfl,arr_get _ _ hi]
theorem OwnP.below {w w':World} {B n:Nat} {v:Value} {l:List (Int×Int)} (h:OwnP w B v n l) (hb:Below w.heap.size w w'):OwnP w' B v n l:=h.same (fun k hk _=>hb.block k hk)
theorem OwnP.down {w:World} {B B' n:Nat} {v:Value} {l:List (Int×Int)} (h:OwnP w B v n l) (hB:B'≤B):OwnP w B' v n l:=by
 refine⟨h.1,?_⟩
 rcases h.2 with h2|⟨g,cap,cur,h2,h3,h4⟩
 · exact .inl h2
 exact .inr ⟨g,cap,cur,h2,Nat.le_trans hB h3,h4⟩
def Bb (w:World) (B:Nat) (z1 z2:Int):Prop:=B<w.heap.size∧w.cell? ⟨B,0,none⟩=some (.int .i64 z1)∧w.cell? ⟨B,1,none⟩=some (.int .i64 z2)
theorem bb_new (w:World) (z1 z2:Int) (T:TypeId):Bb (w.alloc (.cells #[.int .i64 z1,.int .i64 z2] T)) w.heap.size z1 z2:=⟨by simp,by rw[World.cell?_alloc_at _ _ _ _ rfl];rfl,by rw[World.cell?_alloc_at _ _ _ _ rfl];rfl⟩
theorem Bb.kept {w w':World} {B:Nat} {z1 z2:Int} (h:Bb w B z1 z2) (b:Below w.heap.size w w'):Bb w' B z1 z2:=⟨Nat.lt_of_lt_of_le h.1 b.size,(b.cell (p:=⟨B,0,none⟩) h.1).trans h.2.1,(b.cell (p:=⟨B,1,none⟩) h.1).trans h.2.2⟩
def L5End (w:World) (l:List (Int×Int)) (e:Ending) (w':World):Prop:=(∃a L cap,e=.returned (.slice a L cap)∧OwnP w' w.heap.size (.slice a L cap) L l)∧Below w.heap.size w w'

set_option linter.unusedSimpArgs false in
set_option maxHeartbeats 4000000 in
set_option maxRecDepth 20000 in
theorem l5Body_any (xa:Option Addr) (N cL:Nat) (l:List Tk) (x1:Option Addr) (n1 c1:Nat) (ls:List Int) (x2:Option Addr) (n2 c2:Nat) (ds:List Int) (w:World) (ht:Toks w xa l) (hN:l.length=N) (hNb:N≤5000) (h1:Ints w x1 ls) (hn1:ls.length=n1) (hn1b:286≤n1∧n1≤300) (h2:Ints w x2 ds) (hn2:ds.length=n2) (hn2b:30≤n2∧n2≤300) (hok1:Cd.okB ls=true) (hok2:Cd.okB ds=true) (htk:∀t∈l,Df.TkOk t):
 Calls Tryz.prog 43 #[.slice xa N cL,.slice x1 n1 c1,.slice x2 n2 c2] w (L5End w (Df.body ls ds l)):=by
 have HI:Hid (Toks w xa l):=ht
 have HN:Hid (l.length=N):=hN
 have HK:Hid (∀t∈l,Df.TkOk t):=htk
 have HM1:Hid (∀w':World,Below w.heap.size w w'→Calls Tryz.prog 72 #[.slice x1 n1 c1] w' fun e w''=>e=.returned (.slice (some ⟨w'.heap.size,0,none⟩) n1 n1)∧Ints w'' (some ⟨w'.heap.size,0,none⟩) (Mk.mk ls)∧Below w'.heap.size w' w''):=fun w' b=>(l3Make_any x1 c1 n1 ls w' (h1.kept b) hn1 (by omega)).mono (fun e w'' h=>⟨h.1,by rw[h.2];exact ints_arrD _ _ _,by rw[h.2];exact (Below.refl _ _).alloc (Nat.le_refl _) _⟩)
 have HM2:Hid (∀w':World,Below w.heap.size w w'→Calls Tryz.prog 72 #[.slice x2 n2 c2] w' fun e w''=>e=.returned (.slice (some ⟨w'.heap.size,0,none⟩) n2 n2)∧Ints w'' (some ⟨w'.heap.size,0,none⟩) (Mk.mk ds)∧Below w'.heap.size w' w''):=fun w' b=>(l3Make_any x2 c2 n2 ds w' (h2.kept b) hn2 (by omega)).mono (fun e w'' h=>⟨h.1,by rw[h.2];exact ints_arrD _ _ _,by rw[h.2];exact (Below.refl _ _).alloc (Nat.le_refl _) _⟩)
 have HQ:Hid (∀(w0 w':World) (A c:Nat),Ints w0 (some ⟨A,0,none⟩) (Mk.mk ls)→Below w.heap.size w w0→Below w0.heap.size w0 w'→∀s:Nat,s<n1→Calls Tryz.prog 73 #[.slice (some ⟨A,0,none⟩) n1 c,.slice x1 n1 c1,.int .i64 (s:Int)] w' fun e w''=>e=.returned (.agg #[.int .i64 (Cp.bit ls s).1,.int .i64 (Cp.bit ls s).2])∧Below w'.heap.size w' w''):=fun w0 w' A c hA b0 b' s hs=>l3Sym_bit _ x1 n1 c c1 s ls w' (hA.kept b') ((h1.kept b0).kept b') hn1 hs hok1
 have HD:Hid (∀(w0 w':World) (A c:Nat),Ints w0 (some ⟨A,0,none⟩) (Mk.mk ds)→Below w.heap.size w w0→Below w0.heap.size w0 w'→∀s:Nat,s<n2→Calls Tryz.prog 73 #[.slice (some ⟨A,0,none⟩) n2 c,.slice x2 n2 c2,.int .i64 (s:Int)] w' fun e w''=>e=.returned (.agg #[.int .i64 (Cp.bit ds s).1,.int .i64 (Cp.bit ds s).2])∧Below w'.heap.size w' w''):=fun w0 w' A c hA b0 b' s hs=>l3Sym_bit _ x2 n2 c c2 s ds w' (hA.kept b') ((h2.kept b0).kept b') hn2 hs hok2
 clear ht hN htk h1 hn1 h2 hn2 hok1 hok2
 go_enter Tryz.func43,Tryz.ntmps43
 go_wp2_with fail
 refine (HM1.out _ (Below.refl _ _)).mono ?_
 rintro e w1 ⟨rfl,hA1,b1⟩
 obtain⟨A1,hA1e⟩:∃A1,A1=w.heap.size:=⟨_,rfl⟩
 rw[←hA1e] at hA1 ⊢
 have HA1:Hid (Ints w1 (some ⟨A1,0,none⟩) (Mk.mk ls)):=hA1
 have HB1:Hid (Below w.heap.size w w1):=b1
 clear hA1 b1 HM1 hA1e
 go_wp2_with fail
 refine (HM2.out _ HB1.out).mono ?_
 rintro e w2 ⟨rfl,hA2,b2⟩
 obtain⟨A2,hA2e⟩:∃A2,A2=w1.heap.size:=⟨_,rfl⟩
 rw[←hA2e] at hA2 ⊢
 have HA2:Hid (Ints w2 (some ⟨A2,0,none⟩) (Mk.mk ds)∧Ints w2 (some ⟨A1,0,none⟩) (Mk.mk ls)):=⟨hA2,HA1.out.kept b2⟩
 have HB2:Hid (Below w.heap.size w w2):=HB1.out.trans (b2.mono HB1.out.size)
 clear hA2 b2 HM2 hA2e HA1 HB1
 obtain⟨base,hbase⟩:∃base,w2.heap.size=base:=⟨_,rfl⟩
 have HO0:Hid (OwnP (w2.alloc (.cells #[] 38)) base (.slice (some ⟨base,0,none⟩) 0 0) 0 (Df.toks ls ds (l.take 0))∧Below base w2 (w2.alloc (.cells #[] 38))):=by
  rw[←hbase]
  exact⟨own_none w2,(Below.refl _ _).alloc (Nat.le_refl _) _⟩
 have HBS:Hid (w2.heap.size=base):=hbase
 have hwb:w.heap.size≤base:=by rw[←hbase];exact HB2.out.size
 go_wp2_with fail
 clear hbase
 go_loopw [9,10] (fun o i wr=>∃(k m:Nat) (ao:Option Addr) (cap:Nat),k≤N∧i=.int .i64 (k:Int)∧o=.slice ao m cap∧m≤4*k∧Hid (OwnP wr base (.slice ao m cap) m (Df.toks ls ds (l.take k))∧Below base w2 wr)) (fun _ i _=>N-(intOf i).toNat)
 case atStart=>exact⟨0,0,_,_,Nat.zero_le _,rfl,rfl,by simp,HO0⟩
 case round=>
  obtain⟨k,m,ao,cap,hk,rfl,rfl,hm,HR⟩:=hrel
  clear HO0
  have hbr:base≤wr.heap.size:=by have:=HR.out.2.size;have:=HBS.out;omega
  have HBW0:Hid (Below w.heap.size w wr):=HB2.out.trans (HR.out.2.mono hwb)
  by_cases hlt:k<N
  · have hki:(k:Int)<(N:Int):=by omega
    have hkl:k<l.length:=by rw[HN.out];exact hlt
    obtain⟨tb,toff,rfl,htb,d1,d2,d3⟩:=HI.out.at hkl
    have e1:=(HBW0.out.cell (p:=⟨tb,toff+k*3,none⟩) htb).trans d1
    have e2:=(HBW0.out.cell (p:=⟨tb,toff+k*3+1,none⟩) htb).trans d2
    have e3:=(HBW0.out.cell (p:=⟨tb,toff+k*3+2,none⟩) htb).trans d3
    have HTK0:Hid (Df.toks ls ds (l.take (k+1))=Df.toks ls ds (l.take k)++Df.tok ls ds l[k]):=by
     show _=_
     rw[List.take_succ_eq_append_getElem hkl,Df.toks_snoc]
    have hok:=HK.out _ (List.getElem_mem hkl)
    clear d1 d2 d3
    obtain⟨v,s,d,htd⟩:∃v s d,l[k]=(v,s,d):=⟨_,_,_,rfl⟩
    rw[htd] at e1 e2 e3 HTK0 hok
    dsimp only at e1 e2 e3
    clear htd
    have HA3:Hid (Ints wr (some ⟨A2,0,none⟩) (Mk.mk ds)∧Ints wr (some ⟨A1,0,none⟩) (Mk.mk ls)):=⟨HA2.out.1.kept (by rw[HBS.out];exact HR.out.2),HA2.out.2.kept (by rw[HBS.out];exact HR.out.2)⟩
    rcases hok with⟨hs0,hv0,hv1⟩|⟨hs3,hs258,hd1,hd5⟩
    · obtain⟨V,rfl⟩:=Int.eq_ofNat_of_zero_le hv0
      dsimp only at hs0
      subst hs0
      have HTK:Hid (Df.toks ls ds (l.take (k+1))=Df.toks ls ds (l.take k)++[((Cp.bit ls V).1,(Cp.bit ls V).2)]):=HTK0.out
      obtain⟨w3,hw3⟩:∃w3,w3=wr.alloc (.cells #[.int .i64 (V:Int),.int .i64 0,.int .i64 d] 53):=⟨_,rfl⟩
      have b3:Below wr.heap.size wr w3:=by rw[hw3];exact (Below.refl _ _).alloc (Nat.le_refl _) _
      have HY:=HQ.out wr w3 A1 n1 HA3.out.2 HBW0.out b3 V (by omega)
      have HOW:Hid (OwnP w3 base (.slice ao m cap) m (Df.toks ls ds (l.take k))∧Below base w2 w3):=⟨HR.out.1.below b3,HR.out.2.trans (b3.mono hbr)⟩
      obtain⟨u1,hu1⟩:∃u1,u1=(Cp.bit ls V).1:=⟨_,rfl⟩
      obtain⟨u2,hu2⟩:∃u2,u2=(Cp.bit ls V).2:=⟨_,rfl⟩
      rw[←hu1,←hu2] at HY HTK
      rw[hw3] at HY
      have HYH:Hid _:=HY
      have hb3:base≤w3.heap.size:=Nat.le_trans hbr b3.size
      clear HY HR b3 HTK0 hu1 hu2 HA3 HBW0
      go_wp2_with fail
      refine (show Calls _ _ _ _ _ from HYH.out).mono ?_
      rintro e w4 ⟨rfl,b4⟩
      rw[←hw3] at b4
      have hb4:base≤w4.heap.size:=Nat.le_trans hb3 b4.size
      have HO4:Hid (OwnP w4 base (.slice ao m cap) m (Df.toks ls ds (l.take k))∧Below base w2 w4):=⟨HOW.out.1.below b4,HOW.out.2.trans (b4.mono hb3)⟩
      clear b4 HOW HYH hw3 e1 e2 e3
      go_wp2_with (at_builtin;refine wpList_appP w4 (by rfl) _ _ (by rfl) base _ m (Df.toks ls ds (l.take k)) [(u1,u2)] 1 rfl (by omega) _ rfl (by rfl) HO4.out.1 (by rfl) (by omega) hb4 ?_)
      intro g7 cap7 w7 hown7 hg7 hb7
      have HF:Hid (OwnP w7 base (.slice (some ⟨g7,0,none⟩) (m+1) cap7) (m+1) (Df.toks ls ds (l.take (k+1)))∧Below base w2 w7):=⟨by rw[HTK.out];exact hown7,HO4.out.2.trans hb7⟩
      clear hown7 hg7 hb7 HO4
      go_wp2_with fail
      go_roundw
      case rel=>exact⟨k+1,m+1,_,_,by omega,by go_num,rfl,by omega,HF⟩
      case measure=>simp[intOf];omega
    obtain⟨X,rfl⟩:=Int.eq_ofNat_of_zero_le (show 0≤s by dsimp only at hs3;omega)
    obtain⟨Y,rfl⟩:=Int.eq_ofNat_of_zero_le (show 0≤d by dsimp only at hd1;omega)
    dsimp only at hs3 hs258 hd1 hd5
    have hX0:¬(X:Int)=0:=by omega
    have HTK:Hid (Df.toks ls ds (l.take (k+1))=Df.toks ls ds (l.take k)++[((Cp.bit ls (257+Df.szSym X)).1,(Cp.bit ls (257+Df.szSym X)).2),((Df.szBit X).1,(Df.szBit X).2),((Cp.bit ds (Df.dsSym Y)).1,(Cp.bit ds (Df.dsSym Y)).2),((Df.dsBit Y).1,(Df.dsBit Y).2)]):=by
     show _=_
     rw[HTK0.out]
     unfold Df.tok
     rw[if_neg hX0]
     rfl
    have HSZ5:Hid (∀w:World,Calls Tryz.prog 74 #[.int .i64 (X:Int)] w (SzIs X w)):=fun w=>l5Size_any X (by omega) (by omega) w
    have HDS5:Hid (∀w:World,Calls Tryz.prog 75 #[.int .i64 (Y:Int)] w (DsIs Y w)):=fun w=>l5Dist_any Y (by omega) (by omega) w
    have hsl:=Df.szSym_lt X
    have hdl:=Df.dsSym_lt Y
    obtain⟨SY,hSY⟩:∃SY,SY=257+Df.szSym X:=⟨_,rfl⟩
    obtain⟨DY,hDY⟩:∃DY,DY=Df.dsSym Y:=⟨_,rfl⟩
    obtain⟨z1,hz1⟩:∃z1,z1=(Df.szBit X).1:=⟨_,rfl⟩
    obtain⟨z2,hz2⟩:∃z2,z2=(Df.szBit X).2:=⟨_,rfl⟩
    obtain⟨g1,hg1⟩:∃g1,g1=(Df.dsBit Y).1:=⟨_,rfl⟩
    obtain⟨g2,hg2⟩:∃g2,g2=(Df.dsBit Y).2:=⟨_,rfl⟩
    unfold SzIs at HSZ5
    unfold DsIs at HDS5
    rw[←hSY,←hz1,←hz2] at HSZ5
    rw[←hDY,←hg1,←hg2] at HDS5
    rw[←hSY,←hDY,←hz1,←hz2,←hg1,←hg2] at HTK
    have hSYb:SY<n1:=by omega
    have hDYb:DY<n2:=by omega
    clear hsl hdl hSY hDY hz1 hz2 hg1 hg2 HTK0
    have HKX:Hid (∀w':World,Below (wr.alloc (.cells #[.int .i64 v,.int .i64 (X:Int),.int .i64 (Y:Int)] 53)).heap.size (wr.alloc (.cells #[.int .i64 v,.int .i64 (X:Int),.int .i64 (Y:Int)] 53)) w'→w'.cell? ⟨wr.heap.size,2,none⟩=some (.int .i64 (Y:Int))∧Below wr.heap.size wr w'):=fun w' b=>⟨(b.cell (p:=⟨wr.heap.size,2,none⟩) (by simp)).trans (by rw[World.cell?_alloc_at _ _ _ _ rfl];rfl),((Below.refl _ _).alloc (Nat.le_refl _) _).trans (b.mono (by simp))⟩
    go_wp2_with fail
    refine (HSZ5.out _).mono ?_
    rintro e w3 ⟨rfl,b3⟩
    obtain⟨tc,b3'⟩:=HKX.out w3 b3
    have HB3:Hid (Below wr.heap.size wr w3):=b3'
    have hlt3:wr.heap.size<w3.heap.size:=Nat.lt_of_lt_of_le (by simp) b3.size
    have HTC:Hid (w3.cell? ⟨wr.heap.size,2,none⟩=some (.int .i64 (Y:Int))):=tc
    clear b3 b3' tc HSZ5 HKX e1 e2 e3
    have HBN:Hid (Bb (w3.alloc (.cells #[.int .i64 z1,.int .i64 z2] 38)) w3.heap.size z1 z2):=bb_new w3 z1 z2 _
    have tc2:(w3.alloc (.cells #[.int .i64 z1,.int .i64 z2] 38)).cell? ⟨wr.heap.size,2,none⟩=some (.int .i64 (Y:Int)):=(((Below.refl w3.heap.size w3).alloc (Nat.le_refl _) _).cell (p:=⟨wr.heap.size,2,none⟩) hlt3).trans HTC.out
    go_wp2_with fail
    refine (HDS5.out _).mono ?_
    rintro e w4 ⟨rfl,b4⟩
    obtain⟨BX1,hBX1⟩:∃BX1,BX1=w3.heap.size:=⟨_,rfl⟩
    have HBN4:Hid (Bb w4 BX1 z1 z2):=by rw[hBX1];exact HBN.out.kept b4
    have HB4:Hid (Below wr.heap.size wr w4):=HB3.out.trans ((((Below.refl w3.heap.size w3).alloc (Nat.le_refl _) _).trans (b4.mono (by simp))).mono HB3.out.size)
    rw[←hBX1]
    clear b4 HBN hBX1 HB3 HTC tc2 HDS5 hlt3
    obtain⟨W,hW⟩:∃W,W=w4.alloc (.cells #[.int .i64 g1,.int .i64 g2] 38):=⟨_,rfl⟩
    obtain⟨BX2,hBX2⟩:∃BX2,BX2=w4.heap.size:=⟨_,rfl⟩
    have bW4:Below w4.heap.size w4 W:=by rw[hW];exact (Below.refl _ _).alloc (Nat.le_refl _) _
    have HBX1:Hid (Bb W BX1 z1 z2):=HBN4.out.kept bW4
    have HBX2:Hid (Bb W BX2 g1 g2):=by rw[hW,hBX2];exact bb_new w4 g1 g2 _
    have bWr:Below wr.heap.size wr W:=HB4.out.trans (bW4.mono HB4.out.size)
    have hbW:base≤W.heap.size:=Nat.le_trans hbr bWr.size
    have HOW:Hid (OwnP W base (.slice ao m cap) m (Df.toks ls ds (l.take k))):=HR.out.1.below bWr
    have HBW:Hid (Below base w2 W):=HR.out.2.trans (bWr.mono hbr)
    have HBWw:Hid (Below w.heap.size w W):=HBW0.out.trans (bWr.mono HBW0.out.size)
    obtain⟨u1,hu1⟩:∃u1,u1=(Cp.bit ls SY).1:=⟨_,rfl⟩
    obtain⟨u2,hu2⟩:∃u2,u2=(Cp.bit ls SY).2:=⟨_,rfl⟩
    obtain⟨t1,ht1⟩:∃t1,t1=(Cp.bit ds DY).1:=⟨_,rfl⟩
    obtain⟨t2,ht2⟩:∃t2,t2=(Cp.bit ds DY).2:=⟨_,rfl⟩
    have HY1:Hid (∀w':World,Below W.heap.size W w'→Calls Tryz.prog 73 #[.slice (some ⟨A1,0,none⟩) n1 n1,.slice x1 n1 c1,.int .i64 (SY:Int)] w' fun e w''=>e=.returned (.agg #[.int .i64 u1,.int .i64 u2])∧Below w'.heap.size w' w''):=fun w' b=>by rw[hu1,hu2];exact HQ.out W w' A1 n1 (HA3.out.2.kept bWr) HBWw.out b SY hSYb
    have HY2:Hid (∀w':World,Below W.heap.size W w'→Calls Tryz.prog 73 #[.slice (some ⟨A2,0,none⟩) n2 n2,.slice x2 n2 c2,.int .i64 (DY:Int)] w' fun e w''=>e=.returned (.agg #[.int .i64 t1,.int .i64 t2])∧Below w'.heap.size w' w''):=fun w' b=>by rw[ht1,ht2];exact HD.out W w' A2 n2 (HA3.out.1.kept bWr) HBWw.out b DY hDYb
    rw[←hu1,←hu2,←ht1,←ht2] at HTK
    clear bW4 bWr hu1 hu2 ht1 ht2 HA3 HBW0 HB4 HBN4 HR HBWw
    go_wp2_with fail
    rw[←hBX2,←hW]
    clear hW hBX2
    refine wp_region_any (by kernel_rfl) ?_
    refine wpAny_take (i:=0) (v:=(.slice ao m cap)) rfl (by kernel_rfl) (by kernel_rfl) (by kernel_rfl) (fun _ _ _ h=>h) (Or.inl ⟨by rfl,?_⟩) ?_
    · intro wy
      go_simp
    try simp only[Act.put,litE]
    refine wpAny_told (S:=(fun wz=>Below W.heap.size W wz)) [0] 11 73 [.is (.slice ao m cap),.is (.slice (some ⟨A1,0,none⟩) n1 n1),.is (.slice x1 n1 c1),.is (.int .i64 (SY:Int)),.is (.agg #[.int .i64 u1,.int .i64 u2]),.is (.agg #[.int .i64 z1,.int .i64 z2]),.is (.slice (some ⟨A2,0,none⟩) n2 n2),.is (.slice x2 n2 c2),.is (.int .i64 (DY:Int)),.is (.agg #[.int .i64 t1,.int .i64 t2]),.is (.agg #[.int .i64 g1,.int .i64 g2])] (fun j=>if j=0 then (.slice ao m cap) else undef) (by kernel_rfl) (by kernel_rfl) (by kernel_rfl) (by kernel_rfl) (by kernel_rfl) (by rfl) (fun _ _ _ _ hd h=>⟨hd.trans h.1,h.2⟩) (by kernel_rfl) (fun j hj=>by simp only[List.mem_cons,List.not_mem_nil,or_false] at hj;rcases hj with rfl<;>rfl) (fun vs=>by simp only[puts,List.getElem?_toArray,List.getElem?_cons_succ,List.getElem?_cons_zero,Option.bind_some,Act.put,List.setIfInBounds_toArray,List.set_cons_zero,List.set_cons_succ];exact rfl) ((Below.refl _ _).drew) ?_ ?_
    · refine TellsFrom.cons rfl (fun vs wz hS hd K hK=>?_) ?_
      · try dsimp only at hK ⊢
        try simp only[Act.put,litE]
        go_simp
        exact hK.out _ _ hS (Below.refl _ _) rfl
      refine TellsFrom.cons rfl (fun vs wz hS hd K hK=>?_) ?_
      · try dsimp only at hK ⊢
        try simp only[Act.put,litE]
        go_simp
        exact hK.out _ _ hS (Below.refl _ _) rfl
      refine TellsFrom.cons rfl (fun vs wz hS hd K hK=>?_) ?_
      · try dsimp only at hK ⊢
        try simp only[Act.put,litE]
        go_simp
        exact hK.out _ _ hS (Below.refl _ _) rfl
      refine TellsFrom.cons rfl (fun vs wz hS hd K hK=>?_) ?_
      · try dsimp only at hK ⊢
        try simp only[Act.put,litE]
        go_simp
        exact hK.out _ _ hS (Below.refl _ _) rfl
      refine TellsFrom.cons rfl (fun vs wz hS hd K hK=>?_) ?_
      · try dsimp only at hK ⊢
        have h1:vs 1=(.slice (some ⟨A1,0,none⟩) n1 n1):=hd 1 (by kernel_rfl)
        generalize vs 1=x1 at*
        subst h1
        have h2:vs 2=(.slice x1 n1 c1):=hd 2 (by kernel_rfl)
        generalize vs 2=x2 at*
        subst h2
        have h3:vs 3=(.int .i64 (SY:Int)):=hd 3 (by kernel_rfl)
        generalize vs 3=x3 at*
        subst h3
        try simp only[Act.put,litE]
        go_simp
        refine (HY1.out _ hS).mono ?_
        rintro e v1 ⟨rfl,b1⟩
        exact hK.out _ _ (Below.trans hS (b1.mono hS.size)) b1 rfl
      refine TellsFrom.cons rfl (fun vs wz hS hd K hK=>?_) ?_
      · try dsimp only at hK ⊢
        try simp only[Act.put,litE]
        have q0:=(hS.cell (p:=⟨BX1,0,none⟩) HBX1.out.1).trans HBX1.out.2.1
        have q1:=(hS.cell (p:=⟨BX1,1,none⟩) HBX1.out.1).trans HBX1.out.2.2
        go_simp
        exact hK.out _ _ hS (Below.refl _ _) rfl
      refine TellsFrom.cons rfl (fun vs wz hS hd K hK=>?_) ?_
      · try dsimp only at hK ⊢
        try simp only[Act.put,litE]
        go_simp
        exact hK.out _ _ hS (Below.refl _ _) rfl
      refine TellsFrom.cons rfl (fun vs wz hS hd K hK=>?_) ?_
      · try dsimp only at hK ⊢
        try simp only[Act.put,litE]
        go_simp
        exact hK.out _ _ hS (Below.refl _ _) rfl
      refine TellsFrom.cons rfl (fun vs wz hS hd K hK=>?_) ?_
      · try dsimp only at hK ⊢
        try simp only[Act.put,litE]
        go_simp
        exact hK.out _ _ hS (Below.refl _ _) rfl
      refine TellsFrom.cons rfl (fun vs wz hS hd K hK=>?_) ?_
      · try dsimp only at hK ⊢
        have h6:vs 6=(.slice (some ⟨A2,0,none⟩) n2 n2):=hd 6 (by kernel_rfl)
        generalize vs 6=x6 at*
        subst h6
        have h7:vs 7=(.slice x2 n2 c2):=hd 7 (by kernel_rfl)
        generalize vs 7=x7 at*
        subst h7
        have h8:vs 8=(.int .i64 (DY:Int)):=hd 8 (by kernel_rfl)
        generalize vs 8=x8 at*
        subst h8
        try simp only[Act.put,litE]
        go_simp
        refine (HY2.out _ hS).mono ?_
        rintro e v1 ⟨rfl,b1⟩
        exact hK.out _ _ (Below.trans hS (b1.mono hS.size)) b1 rfl
      refine TellsFrom.cons rfl (fun vs wz hS hd K hK=>?_) ?_
      · try dsimp only at hK ⊢
        try simp only[Act.put,litE]
        have q0:=(hS.cell (p:=⟨BX2,0,none⟩) HBX2.out.1).trans HBX2.out.2.1
        have q1:=(hS.cell (p:=⟨BX2,1,none⟩) HBX2.out.1).trans HBX2.out.2.2
        go_simp
        exact hK.out _ _ hS (Below.refl _ _) rfl
      exact TellsFrom.nil
    intro vs wz hS hd
    try dsimp only
    have h0:vs 0=(.slice ao m cap):=hd 0 (by omega)
    have h4:vs 4=(.agg #[.int .i64 u1,.int .i64 u2]):=hd 4 (by omega)
    have h5:vs 5=(.agg #[.int .i64 z1,.int .i64 z2]):=hd 5 (by omega)
    have h9:vs 9=(.agg #[.int .i64 t1,.int .i64 t2]):=hd 9 (by omega)
    have h10:vs 10=(.agg #[.int .i64 g1,.int .i64 g2]):=hd 10 (by omega)
    clear hd
    generalize vs 0=y0 at*
    generalize vs 1=y1 at*
    generalize vs 2=y2 at*
    generalize vs 3=y3 at*
    generalize vs 4=y4 at*
    generalize vs 5=y5 at*
    generalize vs 6=y6 at*
    generalize vs 7=y7 at*
    generalize vs 8=y8 at*
    generalize vs 9=y9 at*
    generalize vs 10=y10 at*
    subst h0
    subst h4
    subst h5
    subst h9
    subst h10
    have HSZ:Hid (Below W.heap.size W wz):=hS
    clear hS
    refine wpAnyH_ready (rs:=[11]) (by kernel_rfl) (by simp) ?_
    refine AllReadyH.cons rfl (fun K hK=>?_) AllReadyH.nil
    go_simp
    refine hK.out _ _ trivial (fun _=>?_)
    clear hK K
    try simp only[Act.put,litE]
    refine wpAnyH_ready (rs:=[12]) (by kernel_rfl) (by simp) ?_
    refine AllReadyH.cons rfl (fun K hK=>?_) AllReadyH.nil
    refine step_appP wz (by rfl) _ _ (by rfl) base _ m (Df.toks ls ds (l.take k)) [(u1,u2),(z1,z2),(t1,t2),(g1,g2)] 4 rfl (by omega) _ rfl (by rfl) (HOW.out.below HSZ.out) (by rfl) (by omega) (Nat.le_trans hbW HSZ.out.size) ?_
    intro g7 cap7 w7 hown7 hg7 hb7
    refine hK.out _ _ trivial (fun _=>?_)
    clear hK K
    try simp only[Act.put,litE]
    refine tkI (i:=13) (v:=.slice (some ⟨g7,0,none⟩) (m+4) cap7) rfl (Or.inl ⟨by rfl,?_⟩) trivial ?_
    · intro wy _
      go_simp
    refine wpAnyH_done (by kernel_rfl) ?_ _
    try simp only[Act.put,litE]
    have HF:Hid (OwnP w7 base (.slice (some ⟨g7,0,none⟩) (m+4) cap7) (m+4) (Df.toks ls ds (l.take (k+1)))∧Below base w2 w7):=⟨by rw[HTK.out];exact hown7,(HBW.out.trans (HSZ.out.mono hbW)).trans hb7⟩
    clear hown7 hg7 hb7 HSZ HOW HBW
    go_wp2_with fail
    go_roundw
    case rel=>exact⟨k+1,m+4,_,_,by omega,by go_num,rfl,by omega,HF⟩
    case measure=>simp[intOf];omega
  have hki:¬(k:Int)<(N:Int):=by omega
  have hkN:N=k:=by omega
  subst hkN
  have HY:Hid (Calls Tryz.prog 73 #[.slice (some ⟨A1,0,none⟩) n1 n1,.slice x1 n1 c1,.int .i64 256] wr fun e w''=>e=.returned (.agg #[.int .i64 (Cp.bit ls 256).1,.int .i64 (Cp.bit ls 256).2])∧Below wr.heap.size wr w''):=HQ.out wr wr A1 n1 (HA2.out.2.kept (by rw[HBS.out];exact HR.out.2)) HBW0.out (Below.refl _ _) 256 (by omega)
  have HEB:Hid (Df.body ls ds l=Df.toks ls ds (l.take N)++[((Cp.bit ls 256).1,(Cp.bit ls 256).2)]):=by
   show _=_
   rw[List.take_of_length_le (by rw[HN.out];exact Nat.le_refl _)]
   rfl
  obtain⟨u1,hu1⟩:∃u1,u1=(Cp.bit ls 256).1:=⟨_,rfl⟩
  obtain⟨u2,hu2⟩:∃u2,u2=(Cp.bit ls 256).2:=⟨_,rfl⟩
  rw[←hu1,←hu2] at HY HEB
  clear hu1 hu2
  go_wp2_with fail
  refine HY.out.mono ?_
  rintro e w4 ⟨rfl,b4⟩
  have hb4:base≤w4.heap.size:=Nat.le_trans hbr b4.size
  have HO4:Hid (OwnP w4 base (.slice ao m cap) m (Df.toks ls ds (l.take N))∧Below base w2 w4):=⟨HR.out.1.below b4,HR.out.2.trans (b4.mono hbr)⟩
  clear b4 HR HY
  go_wp2_with (at_builtin;refine wpList_appP w4 (by rfl) _ _ (by rfl) base _ m (Df.toks ls ds (l.take N)) [(u1,u2)] 1 rfl (by omega) _ rfl (by rfl) HO4.out.1 (by rfl) (by omega) hb4 ?_)
  intro g7 cap7 w7 hown7 hg7 hb7
  have HF:Hid (OwnP w7 w.heap.size (.slice (some ⟨g7,0,none⟩) (m+1) cap7) (m+1) (Df.body ls ds l)∧Below w.heap.size w w7):=⟨by rw[HEB.out];exact OwnP.down hown7 hwb,HB2.out.trans ((HO4.out.2.trans hb7).mono hwb)⟩
  clear hown7 hg7 hb7 HO4
  go_wp2_with fail
  go_ret
  exact⟨⟨_,_,_,rfl,HF.out.1⟩,HF.out.2⟩
end Go.Proofs.YtejebodgfoihkaaGreat
