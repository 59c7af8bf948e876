/- Texts laid together: NfAll, NfBlocks, NfTop, NfInf, NfKinds, NfPre, NfLim, NfShift. -/
import Derived.Test.YtejebodgfoihkaaGreatVFInflateTwoCfTree
import Derived.Test.YtejebodgfoihkaaGreatKFInflateTwox0
import Derived.Test.YtejebodgfoihkaaGreatVFInflateTwoNfOwn
import Derived.Deep.QuietTactic
import Derived.RangeFuncBox
import Derived.Shelf.Abstract
import Derived.Test.YtejebodgfoihkaaGreatKFInflateTwox1
/- All blocks of a text, as the inflater reads them. -/
namespace Go.Proofs.YtejebodgfoihkaaGreat
open Go.RowKit

theorem lol_go {s:ByteArray}:∀{m i p q:Nat} {row L:List Int},Nf.lol s m i p row=.ok (L,q)→p≤q
 | 0,_,_,_,_,_,h=>by unfold Nf.lol at h;cases h;exact Nat.le_refl _
 | m+1,i,p,q,row,L,h=>by
  cases hn:Nf.nxt s 3 p with
  | error c=>rw[Nf.lol_no hn] at h;cases h
  | ok v=>rw[Nf.lol_ok hn] at h;have:=lol_go h;omega
theorem lens_go {s:ByteArray} {zs:List Int} {count:Nat} (hg:GoodC zs):∀{f p q:Nat} {l L:List Int},Nf.lens s zs count f p l=.ok (L,q)→p≤q
 | 0,_,_,_,_,h=>by cases h
 | f+1,p,q,l,L,h=>by
  by_cases hlt:l.length<count
  · cases hr:Nf.run s zs p l with
    | error c=>rw[Nf.lens_no hlt hr] at h;cases h
    | ok r=>
     obtain⟨⟨v,t⟩,q1⟩:=r
     have hb:=Nf.run_ok hg hr
     by_cases ho:l.length+t≤count
     · rw[Nf.lens_more hlt hr ho] at h
       have:=lens_go hg h
       omega
     rw[Nf.lens_over hlt hr ho] at h;cases h
  rw[Nf.lens_done hlt] at h;cases h;exact Nat.le_refl _
theorem block_go {s:ByteArray} {lim k p q:Nat} {l L:List UInt8} (h:Nf.block s lim k p l=.ok (L,q)) (hl:l.length≤lim):p≤q:=by
 unfold Nf.block at h
 split at h
 · unfold Nf.plain at h
   split at h
   · cases h
   split at h
   · cases h
   rename_i m hm
   split at h
   · have h2:=(Nf.nxt_ok hm).1
     have:=(Nf.take_ok' h (by omega) hl).1
     omega
   cases h
 split at h
 · have:=(Nf.body_ok fixS_good fixD_good h hl).1;omega
 split at h
 · unfold Nf.own at h
   split at h
   · cases h
   split at h
   · cases h
   split at h
   · cases h
   rename_i c hc
   have hc1:=(Nf.nxt_ok hc).1
   split at h
   · cases h
   rename_i by_ q1 hlol
   have hlk:=Nf.lol_ok' hlol hc1 (by decide)
   have hlq:=lol_go hlol
   split at h
   · rename_i hck
     have hby:GoodC by_:=goodC (Nf.may_ok (by rw[hlk.2.1];decide) hlk.1 hck.2.2)
     split at h
     · cases h
     rename_i L2 q2 hlens
     have hln:=Nf.lens_ok hby (by rw[hlk.2.1];decide) hlens hlk.2.2 rfl (Nat.zero_le _)
     have hlnq:=lens_go hby hlens
     split at h
     · rename_i hm
       have g1:GoodC (L2.take _):=goodC (Nf.may_ok (by rw[List.length_take];omega) (Nf.valid_sub hln.1 (fun z hz=>List.mem_of_mem_take hz)) hm.1)
       have g2:GoodC (L2.drop _):=goodC (Nf.may_ok (by rw[List.length_drop];omega) (Nf.valid_sub hln.1 (fun z hz=>List.mem_of_mem_drop hz)) hm.2.1)
       have:=(Nf.body_ok g1 g2 h hl).1
       omega
     cases h
   cases h
 cases h

theorem InF.off {R base:Nat} {a b:World} (h:InF R base a b) (hb:base≤a.heap.size):Off R R base a b:=⟨h.os,h.tape,h.output,h.size,fun k hk h1 _=>h.rest k (by omega) h1 (.inl hk)⟩
def BlocksEnd (w:World) (R base:Nat) (s:ByteArray) (lim:Nat) (ANS:Except Nat ((List UInt8×Nat)×List Int)) (e:Ending) (w':World):Prop:=
 (∃L q ks vk fx,ANS=.ok ((L,q),ks)∧(∃r,e=.returned r)∧In w' R base s q L lim vk fx∧OwnI w' base vk ks.length ks∧Off R R base w w'∧q≤8*s.size∧L.length≤lim)∨(∃c,ANS=.error c∧c≠0∧e=fault (c:Int)∧Off R R base w w')

set_option maxHeartbeats 8000000 in
set_option maxRecDepth 20000 in
theorem nfBlocks_any (R base lim:Nat) (s:ByteArray) (w:World) (h:In w R base s 0 [] lim (.slice none 0 0) (.pointer none)) (hR:R<base) (hb:base≤w.heap.size) (hs:s.size≤9000) (hlim:lim≤5000):
 Calls Tryz.prog 50 #[.pointer (some ⟨R,0,none⟩)] w (BlocksEnd w R base s lim (Nf.inflate s lim)):=by
 obtain⟨ANS,hANS⟩:∃r,r=Nf.inflate s lim:=⟨_,rfl⟩
 have hres:(w.alloc (.cells #[.nilFunc,.nilFunc,.nilFunc,.nilFunc] 131)).heap[w.heap.size]?=some (.cells #[.nilFunc,.nilFunc,.nilFunc,.nilFunc] 131 (0,0)):=heap_alloc_new _ _
 have hinf:(Tryz.prog.info? 131).map (·.size)=some (#[.func (.func 83) #[.pointer (some ⟨R,0,none⟩)] #[],.func (.func 84) #[.pointer (some ⟨R,0,none⟩)] #[],.func (.func 85) #[.pointer (some ⟨R,0,none⟩)] #[],.func (.func 86) #[.pointer (some ⟨R,0,none⟩)] #[]]:Array Value).size:=by show _=some 4;kernel_rfl
 have hone:(#[.func (.func 83) #[.pointer (some ⟨R,0,none⟩)] #[],.func (.func 84) #[.pointer (some ⟨R,0,none⟩)] #[],.func (.func 85) #[.pointer (some ⟨R,0,none⟩)] #[],.func (.func 86) #[.pointer (some ⟨R,0,none⟩)] #[]]:Array Value).all (·.oneCell')=true:=by kernel_rfl
 obtain⟨W0,hW0⟩:∃W0,W0=(w.alloc (.cells #[.nilFunc,.nilFunc,.nilFunc,.nilFunc] 131)).setRow w.heap.size #[.func (.func 83) #[.pointer (some ⟨R,0,none⟩)] #[],.func (.func 84) #[.pointer (some ⟨R,0,none⟩)] #[],.func (.func 85) #[.pointer (some ⟨R,0,none⟩)] #[],.func (.func 86) #[.pointer (some ⟨R,0,none⟩)] #[]]:=⟨_,rfl⟩
 obtain⟨AB,hAB⟩:∃AB,AB=w.heap.size:=⟨_,rfl⟩
 have b0:Below w.heap.size w W0:=by rw[hW0];exact ((Below.refl _ _).alloc (Nat.le_refl _) _).trans ⟨rfl,rfl,rfl,by simp,fun k hk=>setRow_other _ _ k _ (by omega)⟩
 have HX0:Hid (In W0 R base s 0 [] lim (.slice none 0 0) (.pointer none)∧Fixd W0 R (.pointer none)∧OwnI W0 base (.slice none 0 0) 0 []∧Off R R base w W0∧W0.heap[AB]?=some (.cells #[.func (.func 83) #[.pointer (some ⟨R,0,none⟩)] #[],.func (.func 84) #[.pointer (some ⟨R,0,none⟩)] #[],.func (.func 85) #[.pointer (some ⟨R,0,none⟩)] #[],.func (.func 86) #[.pointer (some ⟨R,0,none⟩)] #[]] 131 (0,0))∧base≤W0.heap.size∧ANS=(if (0:Nat)=0 then Nf.all s lim Nf.fuel 0 [] [] else .ok (([],0),[]))):=
  ⟨h.kept b0,.inl rfl,World.ownsRow_nil _ _ _ _,(InF.of_below b0).off hb,by rw[hW0,hAB];exact setRow_heap _ _ _ _ _ _ hres,Nat.le_trans hb b0.size,by rw[if_pos rfl];exact hANS⟩
 have HR:Hid (R<base∧AB≠R):=⟨hR,by omega⟩
 have hf0:8*s.size-0<Nf.fuel:=by unfold Nf.fuel;omega
 have hmf:∀(fn:Fn) (first cap:Array Value) (w:World),(Instr.makeFunc fn first cap).run Tryz.prog w=.ok (.func fn first cap) w:=fun _ _ _ _=>rfl
 rw[←hANS]
 clear hANS h hb b0 hR
 go_enter Tryz.func50,Tryz.ntmps50
 go_wp2_with (refine wpList_store_row rfl 131 (.tmp 2) (.tmp 13) rfl w.heap.size #[.func (.func 83) #[.pointer (some ⟨R,0,none⟩)] #[],.func (.func 84) #[.pointer (some ⟨R,0,none⟩)] #[],.func (.func 85) #[.pointer (some ⟨R,0,none⟩)] #[],.func (.func 86) #[.pointer (some ⟨R,0,none⟩)] #[]] rfl rfl 131 #[.nilFunc,.nilFunc,.nilFunc,.nilFunc] hres hinf rfl hone ?_)
 clear hres hinf hone
 go_upto_region 1 with fail
 rw[←hW0,←hAB]
 clear hW0 hAB hmf
 go_loopw [3] (fun v wr=>∃(f q:Nat) (L:List UInt8) (n:Nat) (ks:List Int) (vk fx:Value) (last:Nat),v=.int .i64 (last:Int)∧q≤8*s.size∧L.length≤lim∧(last=0→8*s.size-q<f)∧n+f≤80000∧Hid (In wr R base s q L lim vk fx∧Fixd wr R fx∧OwnI wr base vk n ks∧Off R R base w wr∧wr.heap[AB]?=some (.cells #[.func (.func 83) #[.pointer (some ⟨R,0,none⟩)] #[],.func (.func 84) #[.pointer (some ⟨R,0,none⟩)] #[],.func (.func 85) #[.pointer (some ⟨R,0,none⟩)] #[],.func (.func 86) #[.pointer (some ⟨R,0,none⟩)] #[]] 131 (0,0))∧base≤wr.heap.size∧ANS=(if last=0 then Nf.all s lim f q L ks else .ok ((L,q),ks)))) (fun _ wr=>8*s.size-atOf R wr)
 case atStart=>exact⟨_,0,[],0,[],_,_,0,rfl,Nat.zero_le _,Nat.zero_le _,fun _=>hf0,by unfold Nf.fuel;omega,HX0⟩
 case round=>
  obtain⟨f,q,L,n,ks,vk,fx,last,rfl,hq,hL,hf,hn,HX⟩:=hrel
  clear HX0 hf0
  by_cases hl0:last=0
  · have hf':=hf hl0
    obtain⟨f,rfl⟩:∃f2,f=f2+1:=⟨f-1,by omega⟩
    have HANS:Hid (ANS=Nf.all s lim (f+1) q L ks):=by
     have h:=HX.out.2.2.2.2.2.2
     rw[if_pos hl0] at h
     exact h
    have hnb:n≤100000:=by omega
    have HFU:Hid (8*s.size-q<f+1):=hf'
    subst hl0
    have HN1:Hid (Calls Tryz.prog 87 #[.pointer (some ⟨R,0,none⟩),.int .i64 1] wr (NumEnd wr R base s q 1 L lim vk fx)):=nfNumber_any R q 1 base lim L vk fx s wr HX.out.1 hs hq (by omega)
    have HAT:Hid (atOf R wr=q):=atOf_in HX.out.1
    clear hf hf'
    go_wp2_with fail
    refine HN1.out.mono ?_
    rintro e w1 (⟨last,hv,rfl,h2,h3⟩|⟨hv,rfl,h3⟩)
    · have HN2:Hid (Calls Tryz.prog 87 #[.pointer (some ⟨R,0,none⟩),.int .i64 2] w1 (NumEnd w1 R base s (q+1) 2 L lim vk fx)):=nfNumber_any R (q+1) 2 base lim L vk fx s w1 h2 hs (Nf.nxt_ok hv).1 (by omega)
      have HV:Hid (Nf.nxt s 1 q=.ok last∧InF R base wr w1):=⟨hv,InF.of_only h3⟩
      clear hv h2 h3 HN1
      go_wp2_with fail
      refine HN2.out.mono ?_
      rintro e w2 (⟨k,hv,rfl,h2,h3⟩|⟨hv,rfl,h3⟩)
      · have hk4:k<4:=(Nf.nxt_ok hv).2.2
        have hq3:q+3≤8*s.size:=(Nf.nxt_ok hv).1
        have HF2:Hid (InF R base wr w2):=HV.out.2.trans (InF.of_only h3)
        have HA:Hid (ANS=Nf.all s lim (f+1) q L ks∧Nf.nxt s 1 q=.ok last∧Nf.nxt s 2 (q+1)=.ok k):=⟨HANS.out,HV.out.1,hv⟩
        have hO2:=HF2.out.ownI HX.out.2.2.1 HR.out.1
        obtain⟨ao,cap,rfl,_⟩:=hO2.owns
        have HI2:Hid (In w2 R base s (q+3) L lim (.slice ao n cap) fx∧Fixd w2 R fx∧OwnI w2 base (.slice ao n cap) n ks∧base≤w2.heap.size∧w2.heap[AB]?=some (.cells #[.func (.func 83) #[.pointer (some ⟨R,0,none⟩)] #[],.func (.func 84) #[.pointer (some ⟨R,0,none⟩)] #[],.func (.func 85) #[.pointer (some ⟨R,0,none⟩)] #[],.func (.func 86) #[.pointer (some ⟨R,0,none⟩)] #[]] 131 (0,0))∧Off R R base w w2):=
         ⟨h2,HX.out.2.1.inF HF2.out,hO2,Nat.le_trans HX.out.2.2.2.2.2.1 HF2.out.size,HF2.out.block HX.out.2.2.2.2.1 HR.out.2 (by decide),HX.out.2.2.2.1.trans (HF2.out.off HX.out.2.2.2.2.2.1)⟩
        have c5:=h2.cells.2.2.2.2.1
        have hb2:=HI2.out.2.2.2.1
        have HL:Hid (L.length≤lim):=hL
        have HQ:Hid (q+3≤8*s.size):=hq3
        clear hv h2 h3 HN2 hO2 HF2 HX HANS HV
        go_wp2_with (at_builtin;refine wpList_app1 w2 (by rfl) _ _ (by rfl) base _ n ks (k:Int) (by rfl) HI2.out.2.2.1 (by rfl) (by omega) hb2 ?_)
        intro g4 cap4 w4 hown4 hg4
        have hI4:=HI2.out.1.beside HI2.out.2.2.1 hg4.block
        have hAB4:w4.heap[AB]?=some (.cells #[.func (.func 83) #[.pointer (some ⟨R,0,none⟩)] #[],.func (.func 84) #[.pointer (some ⟨R,0,none⟩)] #[],.func (.func 85) #[.pointer (some ⟨R,0,none⟩)] #[],.func (.func 86) #[.pointer (some ⟨R,0,none⟩)] #[]] 131 (0,0)):=(hg4.block AB (Array.getElem?_eq_some_iff.1 HI2.out.2.2.2.2.1).1 (fun e=>HI2.out.2.2.1.away HI2.out.2.2.2.2.1 (by decide) e.symm)).trans HI2.out.2.2.2.2.1
        have k5:=hI4.cells.2.2.2.2.1
        have f5:=hI4.froz 5
        obtain⟨w5,hw5⟩:∃w5,w5=w4.setCell ⟨R,5,none⟩ (.slice (some ⟨g4,0,none⟩) (n+1) cap4):=⟨_,rfl⟩
        have HI5:Hid (In w5 R base s (q+3) L lim (.slice (some ⟨g4,0,none⟩) (n+1) cap4) fx∧Fixd w5 R fx∧OwnI w5 base (.slice (some ⟨g4,0,none⟩) (n+1) cap4) (n+1) (ks++[(k:Int)])∧base≤w5.heap.size∧w5.heap[AB]?=some (.cells #[.func (.func 83) #[.pointer (some ⟨R,0,none⟩)] #[],.func (.func 84) #[.pointer (some ⟨R,0,none⟩)] #[],.func (.func 85) #[.pointer (some ⟨R,0,none⟩)] #[],.func (.func 86) #[.pointer (some ⟨R,0,none⟩)] #[]] 131 (0,0))∧Off R R base w w5∧R<base):=by
         have hs5:=hI4.setKinds (.slice (some ⟨g4,0,none⟩) (n+1) cap4)
         rw[←hw5] at hs5
         have hF5:InF R base w4 w5:=InF.of_only hs5.2
         have hbs:base≤w4.heap.size:=Nat.le_trans hb2 hg4.size
         have hfx4:Fixd w4 R fx:=by
          rcases HI2.out.2.1 with h|⟨F,BA,BB,e1,e2,e3,e4,e5⟩
          · exact .inl h
          have hblk:∀(kk:Nat) (c:Array Value) (T:TypeId) (z:Nat×Nat),w2.heap[kk]?=some (Obj.cells c T z)→T≠3→w4.heap[kk]?=some (Obj.cells c T z):=fun kk c T z hh hT=>(hg4.block kk (Array.getElem?_eq_some_iff.1 hh).1 (fun e=>HI2.out.2.2.1.away hh hT e.symm)).trans hh
          have htr:∀B zs,Tree w2 R B zs→Tree w4 R B zs:=fun B zs t=>by
           obtain⟨lo,N,t1,t2,t3⟩:=t
           exact⟨lo,N,t1,⟨fun d v b' hb=>⟨(t2.node d v b' hb).1,hblk b' _ _ _ (t2.node d v b' hb).2 (by decide)⟩,t2.inj,t2.closed,t2.dead⟩,t3⟩
          exact .inr ⟨F,BA,BB,e1,hblk F _ _ _ e2 (by decide),e3,htr _ _ e4,htr _ _ e5⟩
         have hoff4:Off R R base w2 w4:=⟨hg4.os,hg4.tape,hg4.output,hg4.size,fun kk hk _ _=>hg4.block kk (by omega) (fun e=>by have:=(hg4.own kk e.symm).1;omega)⟩
         exact⟨hs5.1,hfx4.inF hF5,hF5.ownI hown4 HR.out.1,Nat.le_trans hbs hF5.size,hF5.block hAB4 HR.out.2 (by decide),(HI2.out.2.2.2.2.2.trans hoff4).trans (hF5.off hbs),HR.out.1⟩
        clear hI4 hown4 hg4 hAB4 HI2 hb2
        go_upto_region 6 with fail
        rw[←hw5]
        clear hw5 k5 f5 c5
        have hcell:∀j,j<4→w5.cell? ⟨AB,j,none⟩=(#[.func (.func 83) #[.pointer (some ⟨R,0,none⟩)] #[],.func (.func 84) #[.pointer (some ⟨R,0,none⟩)] #[],.func (.func 85) #[.pointer (some ⟨R,0,none⟩)] #[],.func (.func 86) #[.pointer (some ⟨R,0,none⟩)] #[]]:Array Value)[j]?:=fun j _=>by simp[World.cell?,HI5.out.2.2.2.2.1]
        have hk4':k=0∨k=1∨k=2∨k=3:=by omega
        rcases hk4' with rfl|rfl|rfl|rfl
        · have hfn:w5.cell? ⟨AB,0,none⟩=some (.func (.func 83) #[.pointer (some ⟨R,0,none⟩)] #[]):=hcell 0 (by omega)
          clear hcell
          have HBK:Hid (Calls Tryz.prog 83 #[.pointer (some ⟨R,0,none⟩)] w5 (BlkX w5 R base s lim (.slice (some ⟨g4,0,none⟩) (n+1) cap4) (Nf.block s lim 0 (q+3) L))):=by
           refine (nfPlain_any R base (q+3) lim L _ fx s w5 HI5.out.1 HI5.out.2.2.2.1 hs hq3 hL hlim).mono ?_
           intro e w' g
           have:=g.x HI5.out.2.1
           rw[show Nf.plain s lim (q+3) L=Nf.block s lim 0 (q+3) L from rfl] at this
           exact this
          clear hq3 hL
          go_wp2_with fail
          refine HBK.out.mono ?_
          rintro e w6 (⟨L2,q2,fx2,hbk,⟨r,rfl⟩,h3,h4,h5,h6,h7⟩|⟨c,hc,hc0,rfl,h5⟩)
          · have hgo:=block_go hbk HL.out
            have HF:Hid (In w6 R base s q2 L2 lim (.slice (some ⟨g4,0,none⟩) (n+1) cap4) fx2∧Fixd w6 R fx2∧OwnI w6 base (.slice (some ⟨g4,0,none⟩) (n+1) cap4) (n+1) (ks++[((0:Nat):Int)])∧Off R R base w w6∧w6.heap[AB]?=some (.cells #[.func (.func 83) #[.pointer (some ⟨R,0,none⟩)] #[],.func (.func 84) #[.pointer (some ⟨R,0,none⟩)] #[],.func (.func 85) #[.pointer (some ⟨R,0,none⟩)] #[],.func (.func 86) #[.pointer (some ⟨R,0,none⟩)] #[]] 131 (0,0))∧base≤w6.heap.size∧ANS=(if last=0 then Nf.all s lim f q2 L2 (ks++[((0:Nat):Int)]) else .ok ((L2,q2),ks++[((0:Nat):Int)]))):=by
             refine⟨h3,h4,h5.ownI HI5.out.2.2.1 HR.out.1,HI5.out.2.2.2.2.2.1.trans (h5.off HI5.out.2.2.2.1),h5.block HI5.out.2.2.2.2.1 HR.out.2 (by decide),Nat.le_trans HI5.out.2.2.2.1 h5.size,?_⟩
             by_cases h0:last=0
             · rw[if_pos h0,HA.out.1]
               exact Nf.all_more (by rw[←h0];exact HA.out.2.1) HA.out.2.2 hbk
             rw[if_neg h0,HA.out.1]
             exact Nf.all_end HA.out.2.1 h0 HA.out.2.2 hbk
            have hm:8*s.size-q2<8*s.size-q:=by have:=HQ.out;omega
            have hm2:8*s.size-q2<f:=by have:=HFU.out;omega
            clear hbk h3 h4 h5 HBK HI5 hgo
            go_wp2_with fail
            go_roundw
            case rel=>exact⟨f,q2,L2,n+1,ks++[((0:Nat):Int)],_,fx2,last,rfl,h6,h7,fun _=>by omega,by omega,HF⟩
            case measure=>rw[HAT.out,atOf_in HF.out.1];exact hm
          have HF:Hid (BlocksEnd w R base s lim ANS (fault (c:Int)) w6):=.inr ⟨c,by rw[HA.out.1];exact Nf.all_no3 HA.out.2.1 HA.out.2.2 hc,hc0,rfl,HI5.out.2.2.2.2.2.1.trans (h5.off HI5.out.2.2.2.1)⟩
          clear hc h5 HBK HI5
          unfold fault
          go_wp2_with fail
          exact⟨rfl,HF.out⟩
        · have hfn:w5.cell? ⟨AB,1,none⟩=some (.func (.func 84) #[.pointer (some ⟨R,0,none⟩)] #[]):=hcell 1 (by omega)
          clear hcell
          have HBK:Hid (Calls Tryz.prog 84 #[.pointer (some ⟨R,0,none⟩)] w5 (BlkX w5 R base s lim (.slice (some ⟨g4,0,none⟩) (n+1) cap4) (Nf.block s lim 1 (q+3) L))):=by
           exact nfFixed_any R base (q+3) lim L _ fx s w5 HI5.out.1 HI5.out.2.1 HI5.out.2.2.2.1 hs hq3 hL hlim
          clear hq3 hL
          go_wp2_with fail
          refine HBK.out.mono ?_
          rintro e w6 (⟨L2,q2,fx2,hbk,⟨r,rfl⟩,h3,h4,h5,h6,h7⟩|⟨c,hc,hc0,rfl,h5⟩)
          · have hgo:=block_go hbk HL.out
            have HF:Hid (In w6 R base s q2 L2 lim (.slice (some ⟨g4,0,none⟩) (n+1) cap4) fx2∧Fixd w6 R fx2∧OwnI w6 base (.slice (some ⟨g4,0,none⟩) (n+1) cap4) (n+1) (ks++[((1:Nat):Int)])∧Off R R base w w6∧w6.heap[AB]?=some (.cells #[.func (.func 83) #[.pointer (some ⟨R,0,none⟩)] #[],.func (.func 84) #[.pointer (some ⟨R,0,none⟩)] #[],.func (.func 85) #[.pointer (some ⟨R,0,none⟩)] #[],.func (.func 86) #[.pointer (some ⟨R,0,none⟩)] #[]] 131 (0,0))∧base≤w6.heap.size∧ANS=(if last=0 then Nf.all s lim f q2 L2 (ks++[((1:Nat):Int)]) else .ok ((L2,q2),ks++[((1:Nat):Int)]))):=by
             refine⟨h3,h4,h5.ownI HI5.out.2.2.1 HR.out.1,HI5.out.2.2.2.2.2.1.trans (h5.off HI5.out.2.2.2.1),h5.block HI5.out.2.2.2.2.1 HR.out.2 (by decide),Nat.le_trans HI5.out.2.2.2.1 h5.size,?_⟩
             by_cases h0:last=0
             · rw[if_pos h0,HA.out.1]
               exact Nf.all_more (by rw[←h0];exact HA.out.2.1) HA.out.2.2 hbk
             rw[if_neg h0,HA.out.1]
             exact Nf.all_end HA.out.2.1 h0 HA.out.2.2 hbk
            have hm:8*s.size-q2<8*s.size-q:=by have:=HQ.out;omega
            have hm2:8*s.size-q2<f:=by have:=HFU.out;omega
            clear hbk h3 h4 h5 HBK HI5 hgo
            go_wp2_with fail
            go_roundw
            case rel=>exact⟨f,q2,L2,n+1,ks++[((1:Nat):Int)],_,fx2,last,rfl,h6,h7,fun _=>by omega,by omega,HF⟩
            case measure=>rw[HAT.out,atOf_in HF.out.1];exact hm
          have HF:Hid (BlocksEnd w R base s lim ANS (fault (c:Int)) w6):=.inr ⟨c,by rw[HA.out.1];exact Nf.all_no3 HA.out.2.1 HA.out.2.2 hc,hc0,rfl,HI5.out.2.2.2.2.2.1.trans (h5.off HI5.out.2.2.2.1)⟩
          clear hc h5 HBK HI5
          unfold fault
          go_wp2_with fail
          exact⟨rfl,HF.out⟩
        · have hfn:w5.cell? ⟨AB,2,none⟩=some (.func (.func 85) #[.pointer (some ⟨R,0,none⟩)] #[]):=hcell 2 (by omega)
          clear hcell
          have HBK:Hid (Calls Tryz.prog 85 #[.pointer (some ⟨R,0,none⟩)] w5 (BlkX w5 R base s lim (.slice (some ⟨g4,0,none⟩) (n+1) cap4) (Nf.block s lim 2 (q+3) L))):=by
           refine (nfOwn_any R base (q+3) lim L _ fx s w5 HI5.out.1 HI5.out.2.2.2.1 hs hq3 hL hlim).mono ?_
           intro e w' g
           have:=g.x HI5.out.2.1
           rw[show Nf.own s lim (q+3) L=Nf.block s lim 2 (q+3) L from rfl] at this
           exact this
          clear hq3 hL
          go_wp2_with fail
          refine HBK.out.mono ?_
          rintro e w6 (⟨L2,q2,fx2,hbk,⟨r,rfl⟩,h3,h4,h5,h6,h7⟩|⟨c,hc,hc0,rfl,h5⟩)
          · have hgo:=block_go hbk HL.out
            have HF:Hid (In w6 R base s q2 L2 lim (.slice (some ⟨g4,0,none⟩) (n+1) cap4) fx2∧Fixd w6 R fx2∧OwnI w6 base (.slice (some ⟨g4,0,none⟩) (n+1) cap4) (n+1) (ks++[((2:Nat):Int)])∧Off R R base w w6∧w6.heap[AB]?=some (.cells #[.func (.func 83) #[.pointer (some ⟨R,0,none⟩)] #[],.func (.func 84) #[.pointer (some ⟨R,0,none⟩)] #[],.func (.func 85) #[.pointer (some ⟨R,0,none⟩)] #[],.func (.func 86) #[.pointer (some ⟨R,0,none⟩)] #[]] 131 (0,0))∧base≤w6.heap.size∧ANS=(if last=0 then Nf.all s lim f q2 L2 (ks++[((2:Nat):Int)]) else .ok ((L2,q2),ks++[((2:Nat):Int)]))):=by
             refine⟨h3,h4,h5.ownI HI5.out.2.2.1 HR.out.1,HI5.out.2.2.2.2.2.1.trans (h5.off HI5.out.2.2.2.1),h5.block HI5.out.2.2.2.2.1 HR.out.2 (by decide),Nat.le_trans HI5.out.2.2.2.1 h5.size,?_⟩
             by_cases h0:last=0
             · rw[if_pos h0,HA.out.1]
               exact Nf.all_more (by rw[←h0];exact HA.out.2.1) HA.out.2.2 hbk
             rw[if_neg h0,HA.out.1]
             exact Nf.all_end HA.out.2.1 h0 HA.out.2.2 hbk
            have hm:8*s.size-q2<8*s.size-q:=by have:=HQ.out;omega
            have hm2:8*s.size-q2<f:=by have:=HFU.out;omega
            clear hbk h3 h4 h5 HBK HI5 hgo
            go_wp2_with fail
            go_roundw
            case rel=>exact⟨f,q2,L2,n+1,ks++[((2:Nat):Int)],_,fx2,last,rfl,h6,h7,fun _=>by omega,by omega,HF⟩
            case measure=>rw[HAT.out,atOf_in HF.out.1];exact hm
          have HF:Hid (BlocksEnd w R base s lim ANS (fault (c:Int)) w6):=.inr ⟨c,by rw[HA.out.1];exact Nf.all_no3 HA.out.2.1 HA.out.2.2 hc,hc0,rfl,HI5.out.2.2.2.2.2.1.trans (h5.off HI5.out.2.2.2.1)⟩
          clear hc h5 HBK HI5
          unfold fault
          go_wp2_with fail
          exact⟨rfl,HF.out⟩
        have hfn:w5.cell? ⟨AB,3,none⟩=some (.func (.func 86) #[.pointer (some ⟨R,0,none⟩)] #[]):=hcell 3 (by omega)
        clear hcell
        have HBK:Hid (Calls Tryz.prog 86 #[.pointer (some ⟨R,0,none⟩)] w5 (BlkX w5 R base s lim (.slice (some ⟨g4,0,none⟩) (n+1) cap4) (Nf.block s lim 3 (q+3) L))):=by
         refine (nfNo_any R w5).mono ?_
         rintro e w' ⟨rfl,rfl⟩
         exact .inr ⟨1,rfl,by decide,rfl,InF.refl _ _ _⟩
        clear hq3 hL
        go_wp2_with fail
        refine HBK.out.mono ?_
        rintro e w6 (⟨L2,q2,fx2,hbk,⟨r,rfl⟩,h3,h4,h5,h6,h7⟩|⟨c,hc,hc0,rfl,h5⟩)
        · have hgo:=block_go hbk HL.out
          have HF:Hid (In w6 R base s q2 L2 lim (.slice (some ⟨g4,0,none⟩) (n+1) cap4) fx2∧Fixd w6 R fx2∧OwnI w6 base (.slice (some ⟨g4,0,none⟩) (n+1) cap4) (n+1) (ks++[((3:Nat):Int)])∧Off R R base w w6∧w6.heap[AB]?=some (.cells #[.func (.func 83) #[.pointer (some ⟨R,0,none⟩)] #[],.func (.func 84) #[.pointer (some ⟨R,0,none⟩)] #[],.func (.func 85) #[.pointer (some ⟨R,0,none⟩)] #[],.func (.func 86) #[.pointer (some ⟨R,0,none⟩)] #[]] 131 (0,0))∧base≤w6.heap.size∧ANS=(if last=0 then Nf.all s lim f q2 L2 (ks++[((3:Nat):Int)]) else .ok ((L2,q2),ks++[((3:Nat):Int)]))):=by
           refine⟨h3,h4,h5.ownI HI5.out.2.2.1 HR.out.1,HI5.out.2.2.2.2.2.1.trans (h5.off HI5.out.2.2.2.1),h5.block HI5.out.2.2.2.2.1 HR.out.2 (by decide),Nat.le_trans HI5.out.2.2.2.1 h5.size,?_⟩
           by_cases h0:last=0
           · rw[if_pos h0,HA.out.1]
             exact Nf.all_more (by rw[←h0];exact HA.out.2.1) HA.out.2.2 hbk
           rw[if_neg h0,HA.out.1]
           exact Nf.all_end HA.out.2.1 h0 HA.out.2.2 hbk
          have hm:8*s.size-q2<8*s.size-q:=by have:=HQ.out;omega
          have hm2:8*s.size-q2<f:=by have:=HFU.out;omega
          clear hbk h3 h4 h5 HBK HI5 hgo
          go_wp2_with fail
          go_roundw
          case rel=>exact⟨f,q2,L2,n+1,ks++[((3:Nat):Int)],_,fx2,last,rfl,h6,h7,fun _=>by omega,by omega,HF⟩
          case measure=>rw[HAT.out,atOf_in HF.out.1];exact hm
        have HF:Hid (BlocksEnd w R base s lim ANS (fault (c:Int)) w6):=.inr ⟨c,by rw[HA.out.1];exact Nf.all_no3 HA.out.2.1 HA.out.2.2 hc,hc0,rfl,HI5.out.2.2.2.2.2.1.trans (h5.off HI5.out.2.2.2.1)⟩
        clear hc h5 HBK HI5
        unfold fault
        go_wp2_with fail
        exact⟨rfl,HF.out⟩
      have HF:Hid (BlocksEnd w R base s lim ANS (fault 2) w2):=.inr ⟨2,by rw[HANS.out];exact Nf.all_no2 HV.out.1 hv,by decide,rfl,HX.out.2.2.2.1.trans ((HV.out.2.trans h3).off HX.out.2.2.2.2.2.1)⟩
      clear hv h3 HN2 HX HV
      unfold fault
      go_wp2_with fail
      exact⟨rfl,HF.out⟩
    have HF:Hid (BlocksEnd w R base s lim ANS (fault 2) w1):=.inr ⟨2,by rw[HANS.out];exact Nf.all_no1 hv,by decide,rfl,HX.out.2.2.2.1.trans (h3.off HX.out.2.2.2.2.2.1)⟩
    clear hv h3 HN1 HX
    unfold fault
    go_wp2_with fail
    exact⟨rfl,HF.out⟩
  have hli:¬(last:Int)=0:=by omega
  have HF:Hid (BlocksEnd w R base s lim ANS (.returned (.tuple #[])) wr):=by
   obtain⟨a1,a2,a3,a4,a5,a6,a7⟩:=HX.out
   rw[if_neg hl0] at a7
   have hkl:=a3.len
   subst hkl
   exact .inl ⟨L,q,ks,vk,fx,a7,⟨_,rfl⟩,a1,a3,a4,hq,hL⟩
  clear HX hf
  go_wp2_with fail
  go_end0
  exact HF.out

namespace Nf
def res (s:ByteArray) (lim:Int):Except Nat ((List UInt8×Nat)×List Int):=if s.size≤9000∧0≤lim∧lim≤5000 then inflate s lim.toNat else .error 1
theorem res_ok {s:ByteArray} {lim:Nat} (h:s.size≤9000) (hl:lim≤5000):res s (lim:Int)=inflate s lim:=by unfold res;rw[if_pos ⟨h,by omega,by omega⟩,Int.toNat_natCast]
theorem res_no {s:ByteArray} {lim:Int} (h:¬(s.size≤9000∧0≤lim∧lim≤5000)):res s lim=.error 1:=if_neg h
def out (r:Except Nat ((List UInt8×Nat)×List Int)):List UInt8:=match r with|.ok ((L,_),_)=>L|.error _=>[]
def used (r:Except Nat ((List UInt8×Nat)×List Int)):Nat:=match r with|.ok ((_,q),_)=>(q+7) / 8|.error _=>0
def code (r:Except Nat ((List UInt8×Nat)×List Int)):Nat:=match r with|.ok _=>0|.error c=>c
def kinds (r:Except Nat ((List UInt8×Nat)×List Int)):List Int:=match r with|.ok (_,ks)=>ks|.error _=>[]
end Nf

set_option maxHeartbeats 1000000 in
theorem newInflater_any (s:ByteArray) (lim:Int) (w:World):
 Calls Tryz.prog 48 #[.string s,.int .i64 lim] w fun e w'=>e=.returned (.pointer (some ⟨w.heap.size,0,none⟩))∧w'=w.alloc (.cells #[ordV false,.string s,.int .i64 0,.slice none 0 0,.int .i64 lim,.slice none 0 0,.pointer none] 68):=by
 have HO:Hid (Calls Tryz.prog 38 #[.bool false] w fun e w'=>e=.returned (ordV false)∧w'=w):=orderOf_low w
 go_enter Tryz.func48,Tryz.ntmps48
 go_wp2_with fail
 refine HO.out.mono ?_
 rintro e w1 ⟨rfl,hw1⟩
 replace hw1:=hw1.symm
 subst hw1
 unfold ordV
 go_wp2_with fail
 go_ret
 exact⟨rfl,rfl⟩

set_option maxHeartbeats 1000000 in
theorem faultIn_meth (fw:Nat) (p:Value) (eg:∀args w,(callFunc fw args).run Tryz.prog w=.ok (.enter fw args) w) (R:World→Prop) (Rc:Int→World→Prop) (w:World)
 (h:Calls Tryz.prog fw #[p] (w.alloc (.cells #[.int .i64 0] 3)) fun e w'=>Boxed w' w.heap.size 3 (.int .i64 0)∧((∃v,e=.returned v)∧R w'∨∃c,e=fault c∧Rc c w')):
 Calls Tryz.prog 49 #[.func (.func fw) #[p] #[]] w (FaultOut w R Rc):=by
 have hmf:∀(fn:Fn) (first cap:Array Value) (w:World),(Instr.makeFunc fn first cap).run Tryz.prog w=.ok (.func fn first cap) w:=fun _ _ _ _=>rfl
 have H:Hid (Calls Tryz.prog fw #[p] (w.alloc (.cells #[.int .i64 0] 3)) fun e w'=>Boxed w' w.heap.size 3 (.int .i64 0)∧((∃v,e=.returned v)∧R w'∨∃c,e=fault c∧Rc c w')):=h
 clear h
 go_enter_defers Tryz.func49,Tryz.ntmps49
 go_wp2_with fail
 refine H.out.mono ?_
 rintro e w1 ⟨hb,(⟨⟨v,rfl⟩,hR⟩|⟨c,rfl,hR⟩)⟩
 · have hc:=hb.cell
   have hf:=hb.frozen
   have hb2:Boxed (w1.setCell ⟨w.heap.size,0,none⟩ (.int .i64 0)) w.heap.size 3 (.int .i64 0):=hb.set _
   have hc2:=hb2.cell
   have hfin:FaultOut w R Rc (.returned (.int .i64 0)) (w1.setCell ⟨w.heap.size,0,none⟩ (.int .i64 0)):=⟨w1,hb,.inl ⟨rfl,hR,rfl⟩⟩
   go_wp2_with fail
   refine leaves_cons (f:=82) (args:=#[.pointer (some ⟨w.heap.size,0,none⟩)]) (by simp) (by simp[go_sem]) ?_
   refine (catch_idle ⟨w.heap.size,0,none⟩ _).mono ?_
   rintro e u' w'' ⟨rfl,rfl,rfl⟩
   simp[Leaves,settle,results,Tryz.results49,go_sem,hc2,hfin]
 have hc:=hb.cell
 have hf:=hb.frozen
 have hb2:Boxed (w1.setCell ⟨w.heap.size,0,none⟩ (.int .i64 c)) w.heap.size 3 (.int .i64 c):=hb.set _
 have hc2:=hb2.cell
 have hfin:FaultOut w R Rc (.returned (.int .i64 c)) (w1.setCell ⟨w.heap.size,0,none⟩ (.int .i64 c)):=⟨w1,hb,.inr ⟨c,rfl,hR,rfl⟩⟩
 unfold fault
 go_wp2_with fail
 refine leaves_cons (f:=82) (args:=#[.pointer (some ⟨w.heap.size,0,none⟩)]) (by simp) (by simp[go_sem]) ?_
 refine (catch_met ⟨w.heap.size,0,none⟩ c _ [] _ hc hf).mono ?_
 rintro e u' w'' ⟨rfl,rfl,rfl⟩
 simp[Leaves,settle,results,Tryz.results49,go_sem,hc2,hfin]

def InfEnd (w:World) (s:ByteArray) (lim:Int) (e:Ending) (w':World):Prop:=
 Below w.heap.size w w'∧((∃L q ks vk fx,Nf.res s lim=.ok ((L,q),ks)∧e=.returned (.tuple #[.pointer (some ⟨w.heap.size,0,none⟩),.int .i64 0])∧In w' w.heap.size (w.heap.size+2) s q L lim.toNat vk fx∧OwnI w' (w.heap.size+2) vk ks.length ks∧q≤8*s.size∧L.length≤lim.toNat)∨∃c v,Nf.res s lim=.error c∧c≠0∧e=.returned (.tuple #[v,.int .i64 (c:Int)]))
def BlYes (R base:Nat) (s:ByteArray) (lim:Nat) (w1:World) (w':World):Prop:=
 ∃L q ks vk fx,Nf.inflate s lim=.ok ((L,q),ks)∧In w' R base s q L lim vk fx∧OwnI w' base vk ks.length ks∧Off R R base w1 w'∧q≤8*s.size∧L.length≤lim
def BlNo (R base:Nat) (s:ByteArray) (lim:Nat) (w1:World) (c:Int) (w':World):Prop:=∃d:Nat,c=(d:Int)∧d≠0∧Nf.inflate s lim=.error d∧Off R R base w1 w'

set_option maxHeartbeats 4000000 in
set_option maxRecDepth 20000 in
theorem inflated_yes (s:ByteArray) (lim:Nat) (w:World) (hs:s.size≤9000) (hlim:lim≤5000):
 Calls Tryz.prog 25 #[.string s,.int .i64 (lim:Int)] w (InfEnd w s (lim:Int)):=by
 obtain⟨W1,hW1⟩:∃W1,W1=w.alloc (.cells #[ordV false,.string s,.int .i64 0,.slice none 0 0,.int .i64 (lim:Int),.slice none 0 0,.pointer none] 68):=⟨_,rfl⟩
 have HNI:Hid (Calls Tryz.prog 48 #[.string s,.int .i64 (lim:Int)] w fun e w'=>e=.returned (.pointer (some ⟨w.heap.size,0,none⟩))∧w'=W1):=by rw[hW1];exact newInflater_any s (lim:Int) w
 obtain⟨R,hR⟩:∃R,R=w.heap.size:=⟨_,rfl⟩
 have hz1:W1.heap.size=R+1:=by rw[hW1,World.size_alloc,hR]
 have hI1:In W1 R (R+2) s 0 [] lim (.slice none 0 0) (.pointer none):=⟨.slice none 0 0,by rw[hW1,hR];exact heap_alloc_new _ _,World.ownsRow_nil _ _ _ _⟩
 have b1:Below R w W1:=by rw[hW1,hR];exact (Below.refl _ _).alloc (Nat.le_refl _) _
 obtain⟨W2,hW2⟩:∃W2,W2=W1.alloc (.cells #[.int .i64 0] 3):=⟨_,rfl⟩
 have hz2:W2.heap.size=R+2:=by rw[hW2,World.size_alloc,hz1]
 have b2:Below W1.heap.size W1 W2:=by rw[hW2];exact (Below.refl _ _).alloc (Nat.le_refl _) _
 have hbox:Boxed W2 W1.heap.size 3 (.int .i64 0):=by rw[hW2];exact Boxed.new W1 3 (.int .i64 0)
 have HBL:Hid (Calls Tryz.prog 50 #[.pointer (some ⟨R,0,none⟩)] (W1.alloc (.cells #[.int .i64 0] 3)) fun e w'=>Boxed w' W1.heap.size 3 (.int .i64 0)∧((∃v,e=.returned v)∧BlYes R (R+2) s lim W2 w'∨∃c,e=fault c∧BlNo R (R+2) s lim W2 c w')):=by
  rw[←hW2]
  refine (nfBlocks_any R (R+2) lim s W2 (hI1.kept b2) (by omega) (by omega) hs hlim).mono ?_
  rintro e w' (⟨L,q,ks,vk,fx,h1,h2,h3,h4,h5,h6,h7⟩|⟨c,h1,h2,h3,h4⟩)
  · exact⟨(h5.rest _ (by omega) (by omega) (by omega)).trans hbox,.inl ⟨h2,L,q,ks,vk,fx,h1,h3,h4,h5,h6,h7⟩⟩
  exact⟨(h4.rest _ (by omega) (by omega) (by omega)).trans hbox,.inr ⟨(c:Int),h3,c,rfl,h2,h1,h4⟩⟩
 have HFI:Hid (Calls Tryz.prog 49 #[.func (.func 50) #[.pointer (some ⟨R,0,none⟩)] #[]] W1 (FaultOut W1 (BlYes R (R+2) s lim W2) (BlNo R (R+2) s lim W2))):=
  faultIn_meth 50 (.pointer (some ⟨R,0,none⟩)) (enters_of Tryz.func50 (by kernel_rfl) rfl) _ _ W1 HBL.out
 have HB:Hid (Below R w W1∧Below (R+1) W1 W2∧W1.heap.size=R+1∧R=w.heap.size):=⟨b1,b2.mono (by omega),hz1,hR⟩
 have d1:decide ((s.size:Int)>9000)=false:=decide_eq_false (by omega)
 have d2:decide ((9000:Int)<(s.size:Int))=false:=decide_eq_false (by omega)
 have d3:decide ((lim:Int)<0)=false:=decide_eq_false (by omega)
 have d4:decide ((lim:Int)>5000)=false:=decide_eq_false (by omega)
 have d5:decide ((5000:Int)<(lim:Int))=false:=decide_eq_false (by omega)
 have hmf:∀(fn:Fn) (first cap:Array Value) (w:World),(Instr.makeFunc fn first cap).run Tryz.prog w=.ok (.func fn first cap) w:=fun _ _ _ _=>rfl
 rw[←hR] at HNI
 clear hW1 hI1 b1 hW2 hz1 hz2 b2 hbox HBL hR
 go_enter Tryz.func25,Tryz.ntmps25
 go_wp2_with fail
 refine HNI.out.mono ?_
 rintro e w1 ⟨rfl,hw1⟩
 replace hw1:=hw1.symm
 subst hw1
 clear HNI
 go_wp2_with fail
 refine HFI.out.mono ?_
 rintro e w7 ⟨w6,hb6,(⟨rfl,⟨L,q,ks,vk,fx,g1,g2,g3,g4,g5,g6⟩,ht⟩|⟨c,rfl,⟨d,rfl,hd0,hno,g4⟩,ht⟩)⟩
 · have HF:Hid (InfEnd w s (lim:Int) (.returned (.tuple #[.pointer (some ⟨R,0,none⟩),.int .i64 0])) w7):=by
    obtain⟨k1,k2,k3,k4⟩:=HB.out
    rw[k3] at hb6
    have ht:w7=w6.setCell ⟨R+1,0,none⟩ (.int .i64 0):=by rw[←k3];exact ht
    have hcb:w6.heap[R+1]?=some (.cells #[.int .i64 0] 3 (0,0)):=hb6
    have g2':In w7 R (R+2) s q L lim vk fx:=by
     rw[ht]
     obtain⟨vo,e1,e2⟩:=g2
     exact⟨vo,(Below.heap_setCell w6 ⟨R+1,0,none⟩ _ R (by show R≠R+1;omega)).trans e1,e2.besides (fun k hk=>Below.heap_setCell w6 ⟨R+1,0,none⟩ _ k (fun e=>e2.away hcb (by decide) (by rw[hk,e])))⟩
    have g3':OwnI w7 (R+2) vk ks.length ks:=by
     rw[ht]
     refine⟨g3.1,?_⟩
     rcases g3.2 with g|⟨g,c1,cur,e1,e2,e3,e4⟩
     · exact .inl g
     exact .inr ⟨g,c1,cur,e1,e2,(Below.heap_setCell w6 ⟨R+1,0,none⟩ _ g (by show g≠R+1;omega)).trans e3,e4⟩
    refine⟨?_,.inl ⟨L,q,ks,vk,fx,by rw[Nf.res_ok hs hlim];exact g1,by rw[k4],by rw[←k4,Int.toNat_natCast];exact g2',by rw[←k4];exact g3',g5,by rw[Int.toNat_natCast];exact g6⟩⟩
    rw[←k4,ht]
    exact ((k1.trans (k2.mono (by omega))).trans (g4.below (Nat.le_refl _) (Nat.le_refl _) (by omega))).setCell (p:=⟨R+1,0,none⟩) (show R≤R+1 by omega) _
   clear g1 g2 g3 g4 hb6 ht HFI HB
   go_wp2_with fail
   go_ret2
   exact HF.out
 have HF:Hid (InfEnd w s (lim:Int) (.returned (.tuple #[.pointer (some ⟨R,0,none⟩),.int .i64 (d:Int)])) w7):=by
  obtain⟨k1,k2,k3,k4⟩:=HB.out
  have ht:w7=w6.setCell ⟨R+1,0,none⟩ (.int .i64 (d:Int)):=by rw[←k3];exact ht
  refine⟨?_,.inr ⟨d,_,by rw[Nf.res_ok hs hlim];exact hno,hd0,rfl⟩⟩
  rw[←k4,ht]
  exact ((k1.trans (k2.mono (by omega))).trans (g4.below (Nat.le_refl _) (Nat.le_refl _) (by omega))).setCell (p:=⟨R+1,0,none⟩) (show R≤R+1 by omega) _
 clear hno g4 hb6 ht HFI HB
 go_wp2_with fail
 go_ret2
 exact HF.out

set_option maxHeartbeats 2000000 in
theorem inflated_no (s:ByteArray) (lim:Int) (w:World) (hs:s.size≤3000000) (h:¬(s.size≤9000∧0≤lim∧lim≤5000)):
 Calls Tryz.prog 25 #[.string s,.int .i64 lim] w (InfEnd w s lim):=by
 have HR:Hid (Nf.res s lim=.error 1):=Nf.res_no h
 have HNI:=newInflater_any s lim w
 obtain⟨W1,hW1⟩:∃W1,W1=w.alloc (.cells #[ordV false,.string s,.int .i64 0,.slice none 0 0,.int .i64 lim,.slice none 0 0,.pointer none] 68):=⟨_,rfl⟩
 rw[←hW1] at HNI
 have HB:Hid (Below w.heap.size w W1):=by rw[hW1];exact (Below.refl _ _).alloc (Nat.le_refl _) _
 have HN:Hid (Calls Tryz.prog 48 #[.string s,.int .i64 lim] w fun e w'=>e=.returned (.pointer (some ⟨w.heap.size,0,none⟩))∧w'=W1):=HNI
 have HF:Hid (InfEnd w s lim (.returned (.tuple #[.pointer (some ⟨w.heap.size,0,none⟩),.int .i64 1])) W1):=⟨HB.out,.inr ⟨1,_,HR.out,by decide,rfl⟩⟩
 clear HNI hW1 HB HR
 by_cases h1:s.size≤9000
 · have d1:decide ((s.size:Int)>9000)=false:=decide_eq_false (by omega)
   have d2:decide ((9000:Int)<(s.size:Int))=false:=decide_eq_false (by omega)
   by_cases h2:lim<0
   · have d3:decide (lim<0)=true:=decide_eq_true h2
     clear h
     go_enter Tryz.func25,Tryz.ntmps25
     go_wp2_with fail
     refine HN.out.mono ?_
     rintro e w1 ⟨rfl,hw1⟩
     replace hw1:=hw1.symm
     subst hw1
     go_wp2_with fail
     go_ret2
     exact HF.out
   have d3:decide (lim<0)=false:=decide_eq_false h2
   have d4:decide (lim>5000)=true:=decide_eq_true (by omega)
   have d5:decide ((5000:Int)<lim)=true:=decide_eq_true (by omega)
   clear h
   go_enter Tryz.func25,Tryz.ntmps25
   go_wp2_with fail
   refine HN.out.mono ?_
   rintro e w1 ⟨rfl,hw1⟩
   replace hw1:=hw1.symm
   subst hw1
   go_wp2_with fail
   go_ret2
   exact HF.out
 have d1:decide ((s.size:Int)>9000)=true:=decide_eq_true (by omega)
 have d2:decide ((9000:Int)<(s.size:Int))=true:=decide_eq_true (by omega)
 clear h
 go_enter Tryz.func25,Tryz.ntmps25
 go_wp2_with fail
 refine HN.out.mono ?_
 rintro e w1 ⟨rfl,hw1⟩
 replace hw1:=hw1.symm
 subst hw1
 go_wp2_with fail
 go_ret2
 exact HF.out
theorem inflated_any (s:ByteArray) (lim:Int) (w:World) (hs:s.size≤3000000):
 Calls Tryz.prog 25 #[.string s,.int .i64 lim] w (InfEnd w s lim):=by
 by_cases h:s.size≤9000∧0≤lim∧lim≤5000
 · obtain⟨M,rfl⟩:=Int.eq_ofNat_of_zero_le h.2.1
   exact inflated_yes s M w h.1 (by have:=h.2.2;omega)
 exact inflated_no s lim w hs h

def infV (s:ByteArray) (lim:Int):Value:=.tuple #[.string ⟨(Nf.out (Nf.res s lim)).toArray⟩,.int .i64 ((Nf.used (Nf.res s lim):Nat):Int),.int .i64 ((Nf.code (Nf.res s lim):Nat):Int)]
theorem infV_ok {s:ByteArray} {lim:Int} {L:List UInt8} {q:Nat} {ks:List Int} (h:Nf.res s lim=.ok ((L,q),ks)):infV s lim=.tuple #[.string ⟨L.toArray⟩,.int .i64 (((q+7) / 8:Nat):Int),.int .i64 0]:=by unfold infV;rw[h];rfl
theorem infV_no {s:ByteArray} {lim:Int} {c:Nat} (h:Nf.res s lim=.error c):infV s lim=.tuple #[.string ⟨#[]⟩,.int .i64 0,.int .i64 (c:Int)]:=by unfold infV;rw[h];rfl

theorem drewN_below' {n:Nat} {a b:World} (h:Below n a b) (m:Nat):Below n a (b.drewN m):=⟨h.os,h.tape,h.output,h.size,h.block⟩
set_option linter.unusedSimpArgs false in
set_option maxHeartbeats 4000000 in
set_option maxRecDepth 20000 in
theorem impl_inflate (s:ByteArray) (lim:Int) (w:World) (hs:s.size≤3000000):
 Calls Tryz.prog 8 #[.string s,.int .i64 lim] w fun e w'=>e=.returned (infV s lim)∧Below w.heap.size w w':=by
 have HI:Hid (Calls Tryz.prog 25 #[.string s,.int .i64 lim] w (InfEnd w s lim)):=inflated_any s lim w hs
 go_enter Tryz.func8,Tryz.ntmps8
 go_wp2_with fail
 refine HI.out.mono ?_
 rintro e w1 ⟨b1,(⟨L,q,ks,vk,fx,g1,rfl,g2,g3,g4,g5⟩|⟨c,v,g1,g2,rfl⟩)⟩
 · have hq9:q≤100000:=by
    unfold Nf.res at g1
    split at g1
    · rename_i hh;have:=hh.1;omega
    cases g1
   have HF:Hid (infV s lim=.tuple #[.string ⟨L.toArray⟩,.int .i64 (((q+7) / 8:Nat):Int),.int .i64 0]∧Below w.heap.size w w1):=⟨infV_ok g1,b1⟩
   obtain⟨R,hR⟩:∃R,R=w.heap.size:=⟨_,rfl⟩
   rw[←hR] at g2
   have HUS:Hid (∀w2,(∃m,w2=w1.drewN m)→Calls Tryz.prog 26 #[.pointer (some ⟨R,0,none⟩)] w2 fun e w'=>e=.returned (.int .i64 (((q+7) / 8:Nat):Int))∧w'=w2):=fun w2 hw=>by
    obtain⟨m,rfl⟩:=hw
    exact nfUsed_any R (R+2) q lim.toNat L vk fx s _ (by rw[←hR] at *;exact g2.drewN m) hq9
   obtain⟨vo,hc,hv⟩:=g2
   have c3:w1.cell? ⟨R,3,none⟩=some vo:=by simp[World.cell?,hc]
   have HTX:Hid (∀w2,(∃m,w2=w1.drewN m)→Sem.run Tryz.prog (convert 22 9 vo) w2=.ok (.string ⟨L.toArray⟩) w2):=fun w2 hw=>by
    obtain⟨m,rfl⟩:=hw
    exact OwnT.text (hv.drewN m)
   obtain⟨u,hu⟩:∃u,u=(q+7) / 8:=⟨_,rfl⟩
   rw[←hu] at HUS HF
   rw[←hR]
   clear g1 g3 hc hv HI hR hu
   go_wp2_with fail
   have htx:=fun m=>HTX.out (w1.drewN m) ⟨m,rfl⟩
   go_quiet ((go_at_call 26;exact Calls.quiet_of_same (HUS.out _ ⟨_,rfl⟩)))
   go_wp2_with fail
   refine bodyPost_ret (v:=.tuple #[.string ⟨L.toArray⟩,.int .i64 (u:Int),.int .i64 0]) (by simp[results,Tryz.results8,go_sem]) rfl ?_
   exact⟨by rw[HF.out.1],drewN_below' HF.out.2 _⟩
 have HF:Hid (infV s lim=.tuple #[.string ⟨#[]⟩,.int .i64 0,.int .i64 (c:Int)]∧Below w.heap.size w w1):=⟨infV_no g1,b1⟩
 have hci:¬(c:Int)=0:=by omega
 have hcn:((c:Int) != 0)=true:=by simp;omega
 clear g1 g2 HI
 go_wp2_with fail
 refine bodyPost_ret (v:=.tuple #[.string ⟨#[]⟩,.int .i64 0,.int .i64 (c:Int)]) (by simp[results,Tryz.results8,go_sem]) rfl ?_
 exact⟨by rw[HF.out.1],HF.out.2⟩


theorem Owns.low {w:World} {lo lo':Nat} {a:Option Addr} {l:List Int} (h:Owns w lo a l) (hl:lo'≤lo):Owns w lo' a l:=by
 rcases h with e|⟨b,rfl,h1,h2⟩
 · exact .inl e
 exact .inr ⟨b,rfl,Nat.le_trans hl h1,h2⟩
def KdEnd (w:World) (L:List Int) (n:Nat) (e:Ending) (w':World):Prop:=(∃x c,e=.returned (.slice x n c)∧Owns w' w.heap.size x L)∧Below w.heap.size w w'
set_option maxHeartbeats 2000000 in
theorem impl_inflateKinds (s:ByteArray) (L:List Int) (n:Nat) (w:World) (hs:s.size≤3000000) (hL:L=Nf.kinds (Nf.res s 5000)) (hn:L.length=n):
 Calls Tryz.prog 10 #[.string s] w (KdEnd w L n):=by
 have HI:Hid (Calls Tryz.prog 25 #[.string s,.int .i64 5000] w (InfEnd w s 5000)):=inflated_any s 5000 w hs
 have HL:Hid (L=Nf.kinds (Nf.res s 5000)∧L.length=n):=⟨hL,hn⟩
 clear hL hn
 go_enter Tryz.func10,Tryz.ntmps10
 go_wp2_with fail
 refine HI.out.mono ?_
 rintro e w1 ⟨b1,(⟨M,q,ks,vk,fx,g1,rfl,g2,g3,g4,g5⟩|⟨c,v,g1,g2,rfl⟩)⟩
 · have c5:=g2.cells.2.2.2.2.1
   obtain⟨ao,cap,rfl,ho⟩:=g3.owns
   obtain⟨R,hR⟩:∃R,R=w.heap.size:=⟨_,rfl⟩
   have HF:Hid (KdEnd w L n (.returned (.slice ao ks.length cap)) w1):=by
    have hk:L=ks:=by rw[HL.out.1,g1];rfl
    refine⟨⟨ao,cap,by rw[←HL.out.2,hk],?_⟩,b1⟩
    rw[hk];exact ho.low (by omega)
   rw[←hR] at c5 ⊢
   clear g1 g2 g3 ho HI hR
   go_wp2_with fail
   go_ret
   exact HF.out
 have HF:Hid (KdEnd w L n (.returned (.slice none 0 0)) w1):=by
  have hk:L=[]:=by rw[HL.out.1,g1];rfl
  refine⟨⟨none,0,by rw[←HL.out.2,hk];rfl,.inl hk⟩,b1⟩
 have hci:¬(c:Int)=0:=by omega
 have hcn:((c:Int) != 0)=true:=by simp;omega
 clear g1 g2 HI
 go_wp2_with fail
 go_ret
 exact HF.out

end Go.Proofs.YtejebodgfoihkaaGreat
namespace Go.Proofs.YtejebodgfoihkaaGreat
theorem Bg.low_same {f g:Nat→Nat}:∀{n:Nat},(∀i,i<n→f i=g i)→Bg.low f n=Bg.low g n
 | 0,_=>rfl
 | n+1,h=>by
  unfold Bg.low
  rw[Bg.low_same (fun i hi=>h i (by omega)),h n (by omega)]
namespace Nf
section
variable {s s':ByteArray} {Q lim:Nat}
end
end Nf
namespace Nf
section
variable {s:ByteArray} {K M:Nat}
def Lim {α:Type} (M n:Nat) (r r':Except Nat α):Prop:=(n≤M→r'=r)∧(¬n≤M→r'=.error 3)
theorem Lim.out {α:Type} {M n:Nat} {r r':Except Nat α} (h:r'=.error 3) (hn:¬n≤M):Lim M n r r':=⟨fun e=>absurd e hn,fun _=>h⟩
theorem rep_lim {l L:List UInt8} {n d:Nat} (h:rep K l n d=.ok L):l.length≤L.length∧Lim M L.length (.ok L) (rep M l n d):=by
 unfold rep at h
 split at h
 · rename_i hd
   split at h
   · cases h
     rw[To.again_len]
     refine⟨by omega,fun hn=>rep_ok hd hn,fun hn=>rep_long hd hn⟩
   cases h
 cases h
theorem copy_lim {B:List Int} {l L:List UInt8} {k q q2:Nat} (h:copy s K B k q l=.ok (L,q2)):l.length≤L.length∧Lim M L.length (.ok (L,q2)) (copy s M B k q l):=by
 unfold copy at h
 split at h
 · cases h
 rename_i n q1 h1
 split at h
 · cases h
 rename_i d q3 h2
 split at h
 · cases h
 rename_i L2 h3
 cases h
 have hr:=rep_lim (M:=M) h3
 exact⟨hr.1,fun hn=>copy_ok h1 h2 (hr.2.1 hn),fun hn=>copy_rep h1 h2 (hr.2.2 hn)⟩
theorem copy_mono {B:List Int} {l L:List UInt8} {k q q2:Nat} (h:copy s K B k q l=.ok (L,q2)):l.length≤L.length:=(copy_lim (M:=l.length) h).1
theorem body_mono {A B:List Int}:∀{f p q:Nat} {l L:List UInt8},body s K A B f p l=.ok (L,q)→l.length≤L.length
 | 0,_,_,_,_,h=>by cases h
 | f+1,p,q,l,L,h=>by
  cases hy:sym s A p with
  | error c=>rw[body_no hy] at h;cases h
  | ok r=>
   obtain⟨y,q1⟩:=r
   by_cases h1:y<256
   · by_cases h2:l.length<K
     · rw[body_byte hy h1 h2] at h
       have:=body_mono h
       rw[List.length_append] at this
       omega
     rw[body_full hy h1 h2] at h;cases h
   by_cases h2:y=256
   · rw[body_end hy h2] at h;cases h;exact Nat.le_refl _
   by_cases h3:286≤y
   · rw[body_bad hy h3] at h;cases h
   cases hc:copy s K B (y-257) q1 l with
   | error c=>rw[body_stop hy (by omega) (by omega) hc] at h;cases h
   | ok r=>
    obtain⟨l2,q2⟩:=r
    rw[body_copy hy (by omega) (by omega) hc] at h
    exact Nat.le_trans (copy_mono hc) (body_mono h)
theorem body_lim {A B:List Int}:∀{f p q:Nat} {l L:List UInt8},body s K A B f p l=.ok (L,q)→l.length≤M→l.length≤L.length∧Lim M L.length (.ok (L,q)) (body s M A B f p l)
 | 0,_,_,_,_,h,_=>by cases h
 | f+1,p,q,l,L,h,hl=>by
  cases hy:sym s A p with
  | error c=>rw[body_no hy] at h;cases h
  | ok r=>
   obtain⟨y,q1⟩:=r
   by_cases h1:y<256
   · by_cases h2:l.length<K
     · rw[body_byte hy h1 h2] at h
       by_cases h3:l.length<M
       · have ih:=body_lim h (by rw[List.length_append];exact h3)
         rw[List.length_append] at ih
         rw[body_byte hy h1 h3]
         exact⟨Nat.le_trans (Nat.le_add_right _ _) ih.1,ih.2⟩
       have hml:∀{f p q:Nat} {l L:List UInt8},body s K A B f p l=.ok (L,q)→l.length≤L.length:=fun h=>(body_mono h)
       have hL:=hml h
       rw[List.length_append] at hL
       simp only[List.length_cons,List.length_nil] at hL
       exact⟨by omega,Lim.out (body_full hy h1 h3) (by omega)⟩
     rw[body_full hy h1 h2] at h;cases h
   by_cases h2:y=256
   · rw[body_end hy h2] at h
     cases h
     exact⟨Nat.le_refl _,fun _=>body_end hy h2,fun hn=>absurd hl hn⟩
   by_cases h3:286≤y
   · rw[body_bad hy h3] at h;cases h
   cases hc:copy s K B (y-257) q1 l with
   | error c=>rw[body_stop hy (by omega) (by omega) hc] at h;cases h
   | ok r=>
    obtain⟨l2,q2⟩:=r
    rw[body_copy hy (by omega) (by omega) hc] at h
    have hcl:=copy_lim (M:=M) hc
    by_cases h4:l2.length≤M
    · have ih:=body_lim h h4
      rw[body_copy hy (by omega) (by omega) (hcl.2.1 h4)]
      exact⟨Nat.le_trans hcl.1 ih.1,ih.2⟩
    have hL:=body_mono h
    exact⟨Nat.le_trans hcl.1 hL,Lim.out (body_stop hy (by omega) (by omega) (hcl.2.2 h4)) (by omega)⟩
theorem take_mono:∀{n p q:Nat} {l L:List UInt8},take s K n p l=.ok (L,q)→l.length≤L.length
 | 0,_,_,_,_,h=>by unfold take at h;cases h;exact Nat.le_refl _
 | n+1,p,q,l,L,h=>by
  cases hn:nxt s 8 p with
  | error c=>rw[take_no hn] at h;cases h
  | ok v=>
   by_cases h2:l.length<K
   · rw[take_ok hn h2] at h
     have:=take_mono h
     rw[List.length_append] at this
     omega
   rw[take_full hn h2] at h;cases h
theorem take_lim:∀{n p q:Nat} {l L:List UInt8},take s K n p l=.ok (L,q)→l.length≤M→l.length≤L.length∧Lim M L.length (.ok (L,q)) (take s M n p l)
 | 0,p,q,l,L,h,hl=>by
  unfold take at h
  cases h
  exact⟨Nat.le_refl _,fun _=>rfl,fun hn=>absurd hl hn⟩
 | n+1,p,q,l,L,h,hl=>by
  refine⟨take_mono h,?_⟩
  cases hn:nxt s 8 p with
  | error c=>rw[take_no hn] at h;cases h
  | ok v=>
   by_cases h2:l.length<K
   · rw[take_ok hn h2] at h
     by_cases h3:l.length<M
     · rw[take_ok hn h3]
       exact (take_lim h (by rw[List.length_append];exact h3)).2
     have hL:=take_mono h
     rw[List.length_append] at hL
     simp only[List.length_cons,List.length_nil] at hL
     exact Lim.out (take_full hn h3) (by omega)
   rw[take_full hn h2] at h;cases h
theorem block_lim {k p q:Nat} {l L:List UInt8} (h:block s K k p l=.ok (L,q)) (hl:l.length≤M):l.length≤L.length∧Lim M L.length (.ok (L,q)) (block s M k p l):=by
 unfold block at h ⊢
 split at h
 · rename_i h0
   rw[if_pos h0]
   unfold plain at h
   split at h
   · cases h
   rename_i n hn
   split at h
   · cases h
   rename_i m hm
   split at h
   · rename_i hs
     rw[plain_ok hn hm hs]
     exact take_lim h hl
   cases h
 rename_i h0
 rw[if_neg h0]
 split at h
 · rename_i h1
   rw[if_pos h1]
   exact body_lim h hl
 rename_i h1
 rw[if_neg h1]
 split at h
 · rename_i h2
   rw[if_pos h2]
   unfold own at h
   split at h
   · cases h
   rename_i a ha
   split at h
   · cases h
   rename_i b hb
   split at h
   · cases h
   rename_i c hc
   split at h
   · cases h
   rename_i by_ q1 hlol
   split at h
   · rename_i hck
     split at h
     · cases h
     rename_i L2 q2 hlens
     split at h
     · rename_i hm
       rw[own_body (Y:=a+257) (N:=a+257+(b+1)) ⟨ha,hb,hc⟩ hlol hck hlens hm ⟨rfl,rfl⟩]
       exact body_lim h hl
     cases h
   cases h
 cases h
theorem all_mono:∀{f q:Nat} {l:List UInt8} {ks:List Int} {R:(List UInt8×Nat)×List Int},all s K f q l ks=.ok R→l.length≤R.1.1.length
 | 0,_,_,_,_,h=>by cases h
 | f+1,q,l,ks,R,h=>by
  cases h1:nxt s 1 q with
  | error c=>rw[all_no1 h1] at h;cases h
  | ok last=>
   cases h2:nxt s 2 (q+1) with
   | error c=>rw[all_no2 h1 h2] at h;cases h
   | ok k=>
    cases h3:block s K k (q+3) l with
    | error c=>rw[all_no3 h1 h2 h3] at h;cases h
    | ok r=>
     obtain⟨l2,q2⟩:=r
     have hb:=(block_lim (M:=l.length) h3 (Nat.le_refl _)).1
     by_cases h0:last=0
     · subst h0
       rw[all_more h1 h2 h3] at h
       exact Nat.le_trans hb (all_mono h)
     rw[all_end h1 h0 h2 h3] at h
     cases h
     exact hb
theorem all_lim:∀{f q:Nat} {l:List UInt8} {ks:List Int} {R:(List UInt8×Nat)×List Int},all s K f q l ks=.ok R→l.length≤M→Lim M R.1.1.length (.ok R) (all s M f q l ks)
 | 0,_,_,_,_,h,_=>by cases h
 | f+1,q,l,ks,R,h,hl=>by
  cases h1:nxt s 1 q with
  | error c=>rw[all_no1 h1] at h;cases h
  | ok last=>
   cases h2:nxt s 2 (q+1) with
   | error c=>rw[all_no2 h1 h2] at h;cases h
   | ok k=>
    cases h3:block s K k (q+3) l with
    | error c=>rw[all_no3 h1 h2 h3] at h;cases h
    | ok r=>
     obtain⟨l2,q2⟩:=r
     have hb:=block_lim h3 hl
     by_cases h0:last=0
     · subst h0
       rw[all_more h1 h2 h3] at h
       by_cases h4:l2.length≤M
       · rw[all_more h1 h2 (hb.2.1 h4)]
         exact all_lim h h4
       have:=all_mono h
       exact Lim.out (all_no3 h1 h2 (hb.2.2 h4)) (by omega)
     rw[all_end h1 h0 h2 h3] at h
     cases h
     exact⟨fun hn=>all_end h1 h0 h2 (hb.2.1 hn),fun hn=>all_no3 h1 h2 (hb.2.2 hn)⟩
theorem inflate_lim {R:(List UInt8×Nat)×List Int} (h:inflate s K=.ok R) (M:Nat):Lim M R.1.1.length (.ok R) (inflate s M):=all_lim h (Nat.zero_le _)
end
end Nf
theorem Gt.go_move {s:Nat→Nat→Int} {bit bit':Nat→Nat} {D:Nat} (hb:∀j,bit' (D+j)=bit j):∀{m d v p i q:Nat},Gt.go s bit m d v p=some (i,q)→Gt.go s bit' m d v (D+p)=some (i,D+q)
 | 0,_,_,_,_,_,h=>by cases h
 | m+1,d,v,p,i,q,h=>by
  unfold Gt.go at h ⊢
  rw[hb p]
  split at h
  · rename_i h0
    rw[if_pos h0]
    cases h
    rfl
  rename_i h0
  rw[if_neg h0]
  exact Gt.go_move hb h
theorem To.again_move (P l:List UInt8) {d:Nat} (hd:d≤l.length):∀n,To.again (P++l) d n=P++To.again l d n
 | 0=>rfl
 | n+1=>by
  rw[To.again,To.again,To.again_move P l hd n,List.append_assoc]
  congr 3
  have hl:=To.again_len l d n
  rw[List.length_append,List.getD_eq_getElem?_getD,List.getD_eq_getElem?_getD,List.getElem?_append_right (by omega)]
  congr 2
  omega
namespace Nf
structure Shf (s s':ByteArray) (D:Nat):Prop where
 whole:D%8=0
 size:8*s'.size=D+8*s.size
 bits:∀i,bitAt s' false (D+i)=bitAt s false i
section
variable {s s':ByteArray} {D lim:Nat} {P:List UInt8}
theorem nxt_sh {n p v:Nat} (g:Shf s s' D) (h:nxt s n p=.ok v):nxt s' n (D+p)=.ok v:=by
 have h1:=nxt_ok h
 rw[nxt_yes (by have:=g.size;omega),h1.2.1]
 congr 1
 unfold num
 exact Bg.low_same (fun i _=>by rw[Nat.add_assoc,g.bits])
theorem sym_sh {zs:List Int} {p y q:Nat} (g:Shf s s' D) (h:sym s zs p=.ok (y,q)):sym s' zs (D+p)=.ok (y,D+q):=by
 unfold sym at h
 split at h
 · rename_i r hr
   cases h
   refine sym_some ?_
   unfold Gt.get at hr ⊢
   rw[show 8*s'.size-(D+p)=8*s.size-p by have:=g.size;omega]
   exact Gt.go_move g.bits hr
 cases h
theorem size_sh {k p n q:Nat} (g:Shf s s' D) (h:size s k p=.ok (n,q)):size s' k (D+p)=.ok (n,D+q):=by
 unfold size at h
 split at h
 · cases h
 rename_i v hv
 cases h
 rw[←Nat.add_assoc]
 exact size_ok (nxt_sh g hv)
theorem dist_sh {B:List Int} {p d q:Nat} (g:Shf s s' D) (h:dist s B p=.ok (d,q)):dist s' B (D+p)=.ok (d,D+q):=by
 unfold dist at h
 split at h
 · cases h
 rename_i y q1 hy
 split at h
 · rename_i h30
   split at h
   · cases h
   rename_i v hv
   cases h
   rw[←Nat.add_assoc]
   exact dist_ok (sym_sh g hy) h30 (nxt_sh g hv)
 cases h
theorem rep_sh {l L:List UInt8} {n d:Nat} (h:rep lim l n d=.ok L):rep (lim+P.length) (P++l) n d=.ok (P++L):=by
 unfold rep at h
 split at h
 · rename_i hd
   split at h
   · cases h
     rw[←To.again_move P l hd]
     exact rep_ok (by rw[List.length_append];omega) (by rw[List.length_append];omega)
   cases h
 cases h
theorem copy_sh {B:List Int} {k p q:Nat} {l L:List UInt8} (g:Shf s s' D) (h:copy s lim B k p l=.ok (L,q)):copy s' (lim+P.length) B k (D+p) (P++l)=.ok (P++L,D+q):=by
 unfold copy at h
 split at h
 · cases h
 rename_i n q1 h1
 split at h
 · cases h
 rename_i d q2 h2
 split at h
 · cases h
 rename_i L2 h3
 cases h
 exact copy_ok (size_sh g h1) (dist_sh g h2) (rep_sh h3)
theorem body_sh {A B:List Int} (g:Shf s s' D):∀{f p q:Nat} {l L:List UInt8},body s lim A B f p l=.ok (L,q)→body s' (lim+P.length) A B f (D+p) (P++l)=.ok (P++L,D+q)
 | 0,_,_,_,_,h=>by cases h
 | f+1,p,q,l,L,h=>by
  cases hy:sym s A p with
  | error c=>rw[body_no hy] at h;cases h
  | ok r=>
   obtain⟨y,q1⟩:=r
   by_cases h1:y<256
   · by_cases h2:l.length<lim
     · rw[body_byte hy h1 h2] at h
       rw[body_byte (sym_sh g hy) h1 (by rw[List.length_append];omega),List.append_assoc]
       exact body_sh g h
     rw[body_full hy h1 h2] at h;cases h
   by_cases h2:y=256
   · rw[body_end hy h2] at h
     cases h
     exact body_end (sym_sh g hy) h2
   by_cases h3:286≤y
   · rw[body_bad hy h3] at h;cases h
   cases hc:copy s lim B (y-257) q1 l with
   | error c=>rw[body_stop hy (by omega) (by omega) hc] at h;cases h
   | ok r=>
    obtain⟨l2,q2⟩:=r
    rw[body_copy hy (by omega) (by omega) hc] at h
    rw[body_copy (sym_sh g hy) (by omega) (by omega) (copy_sh g hc)]
    exact body_sh g h
theorem take_sh (g:Shf s s' D):∀{n p q:Nat} {l L:List UInt8},take s lim n p l=.ok (L,q)→take s' (lim+P.length) n (D+p) (P++l)=.ok (P++L,D+q)
 | 0,p,q,l,L,h=>by
  unfold take at h
  cases h
  rfl
 | n+1,p,q,l,L,h=>by
  cases hn:nxt s 8 p with
  | error c=>rw[take_no hn] at h;cases h
  | ok v=>
   by_cases h2:l.length<lim
   · rw[take_ok hn h2] at h
     rw[take_ok (nxt_sh g hn) (by rw[List.length_append];omega),List.append_assoc,Nat.add_assoc]
     exact take_sh g h
   rw[take_full hn h2] at h;cases h
theorem lol_sh (g:Shf s s' D):∀{m i p q:Nat} {row L:List Int},lol s m i p row=.ok (L,q)→lol s' m i (D+p) row=.ok (L,D+q)
 | 0,_,p,q,row,L,h=>by
  unfold lol at h
  cases h
  rfl
 | m+1,i,p,q,row,L,h=>by
  cases hn:nxt s 3 p with
  | error c=>rw[lol_no hn] at h;cases h
  | ok v=>
   rw[lol_ok hn] at h
   rw[lol_ok (nxt_sh g hn),Nat.add_assoc]
   exact lol_sh g h
theorem run_sh {zs l:List Int} {p t q:Nat} {v:Int} (g:Shf s s' D) (h:run s zs p l=.ok ((v,t),q)):run s' zs (D+p) l=.ok ((v,t),D+q):=by
 cases hy:sym s zs p with
 | error c=>rw[run_no hy] at h;cases h
 | ok r=>
  obtain⟨y,q1⟩:=r
  by_cases h16:y=16
  · subst h16
    by_cases hl:l.length=0
    · rw[run_16n hy hl] at h;cases h
    cases hn:nxt s 2 q1 with
    | error c=>rw[run_16s hy hl hn] at h;cases h
    | ok u=>
     rw[run_16 hy hl hn] at h
     cases h
     exact run_16 (sym_sh g hy) hl (nxt_sh g hn)
  by_cases h17:y=17
  · subst h17
    cases hn:nxt s 3 q1 with
    | error c=>rw[run_17s hy hn] at h;cases h
    | ok u=>
     rw[run_17 hy hn] at h
     cases h
     exact run_17 (sym_sh g hy) (nxt_sh g hn)
  by_cases h18:y=18
  · subst h18
    cases hn:nxt s 7 q1 with
    | error c=>rw[run_18s hy hn] at h;cases h
    | ok u=>
     rw[run_18 hy hn] at h
     cases h
     exact run_18 (sym_sh g hy) (nxt_sh g hn)
  rw[run_one hy (by omega)] at h
  cases h
  exact run_one (sym_sh g hy) (by omega)
theorem lens_sh {zs:List Int} {count:Nat} (g:Shf s s' D):∀{f p q:Nat} {l L:List Int},lens s zs count f p l=.ok (L,q)→lens s' zs count f (D+p) l=.ok (L,D+q)
 | 0,_,_,_,_,h=>by cases h
 | f+1,p,q,l,L,h=>by
  by_cases hlt:l.length<count
  · cases hr:run s zs p l with
    | error c=>rw[lens_no hlt hr] at h;cases h
    | ok r=>
     obtain⟨⟨v,t⟩,q1⟩:=r
     by_cases ho:l.length+t≤count
     · rw[lens_more hlt hr ho] at h
       rw[lens_more hlt (run_sh g hr) ho]
       exact lens_sh g h
     rw[lens_over hlt hr ho] at h;cases h
  rw[lens_done hlt] at h
  cases h
  exact lens_done hlt
theorem block_sh {k p q:Nat} {l L:List UInt8} (g:Shf s s' D) (h:block s lim k p l=.ok (L,q)):block s' (lim+P.length) k (D+p) (P++l)=.ok (P++L,D+q):=by
 unfold block at h ⊢
 split at h
 · rename_i h0
   rw[if_pos h0]
   unfold plain at h
   split at h
   · cases h
   rename_i n hn
   split at h
   · cases h
   rename_i m hm
   split at h
   · rename_i hs
     have e:8*((D+p+7) / 8)=D+8*((p+7) / 8):=by have:=g.whole;omega
     have hm2:=nxt_sh g hm
     rw[←Nat.add_assoc] at hm2
     rw[plain_ok (by rw[e];exact nxt_sh g hn) (by rw[e];exact hm2) hs,e,Nat.add_assoc]
     exact take_sh g h
   cases h
 rename_i h0
 rw[if_neg h0]
 split at h
 · rename_i h1
   rw[if_pos h1]
   exact body_sh g h
 rename_i h1
 rw[if_neg h1]
 split at h
 · rename_i h2
   rw[if_pos h2]
   unfold own at h
   split at h
   · cases h
   rename_i a ha
   split at h
   · cases h
   rename_i b hb
   split at h
   · cases h
   rename_i c hc
   split at h
   · cases h
   rename_i by_ q1 hlol
   split at h
   · rename_i hck
     split at h
     · cases h
     rename_i L2 q2 hlens
     split at h
     · rename_i hm
       have hb2:=nxt_sh g hb
       have hc2:=nxt_sh g hc
       have hl2:=lol_sh g hlol
       rw[←Nat.add_assoc] at hb2 hc2 hl2
       rw[own_body (Y:=a+257) (N:=a+257+(b+1)) ⟨nxt_sh g ha,hb2,hc2⟩ hl2 hck (lens_sh g hlens) hm ⟨rfl,rfl⟩]
       exact body_sh g h
     cases h
   cases h
 cases h
theorem block_of_inflate {k q:Nat} {L:List UInt8} {ks:List Int} (h1:nxt s 1 0=.ok 1) (h2:nxt s 2 1=.ok k) (h:inflate s lim=.ok ((L,q),ks)):block s lim k 3 []=.ok (L,q):=by
 have h:all s lim (72000+1) 0 [] []=.ok ((L,q),ks):=h
 cases h3:block s lim k 3 [] with
 | error c=>rw[all_no3 h1 h2 h3] at h;cases h
 | ok r=>
  obtain⟨l2,q2⟩:=r
  rw[all_end h1 (by decide) h2 h3] at h
  cases h
  rfl
theorem all_sh {k q f:Nat} {L:List UInt8} {ks ks':List Int} (g:Shf s s' D) (h1:nxt s 1 0=.ok 1) (h2:nxt s 2 1=.ok k) (h:inflate s lim=.ok ((L,q),ks)):all s' (lim+P.length) (f+1) D P ks'=.ok ((P++L,D+q),ks'++[(k:Int)]):=by
 have h3:=block_sh (P:=P) g (block_of_inflate h1 h2 h)
 rw[List.append_nil] at h3
 exact all_end (nxt_sh g h1) (by decide) (nxt_sh g h2) h3
end
end Nf
end Go.Proofs.YtejebodgfoihkaaGreat
