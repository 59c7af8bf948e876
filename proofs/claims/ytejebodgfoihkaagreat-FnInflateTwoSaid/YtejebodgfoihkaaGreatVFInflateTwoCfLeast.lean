/- The place of the least node. -/
import Derived.Deep.QuietTactic
import Derived.BigQuiet
import Derived.Test.YtejebodgfoihkaaGreatKFInflateTwox0
namespace Go.Proofs.YtejebodgfoihkaaGreat
open Go.RowKit

def bestV:Option (Nat×Nat)→Int
 | none=>-1
 | some p=>(p.1:Int)

set_option maxHeartbeats 2000000 in
set_option maxRecDepth 20000 in
theorem l3Least_any (Q lo:Nat) (a:Option Addr) (n c:Nat) (ns:List Cf.Wt) (ss:List Sy) (but:Int) (w:World) (h:Nodes Q lo w (.slice a n c) (ns.map (fun x=>x.1)) ss) (hn:ns.length=n) (hb:n≤400):
 Calls Tryz.prog 118 #[.slice a n c,.int .i64 but] w fun e w'=>e=.returned (.int .i64 (bestV (Cf.lst but ns 0 none)))∧∃m,w'=w.drewN m:=by
 have HN:Hid (ns.length=n):=hn
 have HS:Hid (Nodes Q lo w (.slice a n c) (ns.map (fun x=>x.1)) ss):=h
 obtain⟨ans,hans⟩:∃ans,ans=Cf.lst but ns 0 none:=⟨_,rfl⟩
 have HA0:Hid (ans=Cf.lst but (ns.drop 0) 0 none):=hans
 rw[←hans]
 clear h hn hans
 go_enter Tryz.func118,Tryz.ntmps118
 go_wp2_with fail
 go_loopw [5,6] (fun b i wr=>∃(k m:Nat) (cur:Option (Nat×Nat)),k≤n∧i=.int .i64 (k:Int)∧b=.int .i64 (bestV cur)∧Hid (ans=Cf.lst but (ns.drop k) k cur)∧Hid (∀p,cur=some p→p.1<n∧∃x,ns[p.1]?=some x∧x.1=p.2)∧Hid (wr=w.drewN m)) (fun _ i _=>n-(intOf i).toNat)
 case atStart=>exact⟨0,0,none,Nat.zero_le _,rfl,rfl,HA0,fun p hp=>by (cases hp),rfl⟩
 case round=>
  obtain⟨k,m,cur,hk,rfl,rfl,HA,HC,HW⟩:=hrel
  clear HA0
  by_cases hlt:k<n
  · have hki:(k:Int)<(n:Int):=by omega
    have hkl:k<ns.length:=by rw[HN.out];exact hlt
    obtain⟨g,rfl,c0,-,-⟩:=HS.out.at (i:=k) (by rw[List.length_map];exact hkl)
    rw[List.getElem_map] at c0
    have HDR:Hid (ns.drop k=ns[k]::ns.drop (k+1)):=List.drop_eq_getElem_cons hkl
    obtain⟨x,hx⟩:∃x,x=ns[k].1:=⟨_,rfl⟩
    rw[←hx] at c0
    have e1:wr.cell? ⟨g,k*2,none⟩=some (.int .i64 (x:Int)):=by rw[HW.out];exact c0
    have hgk:ns[k]?=some ns[k]:=List.getElem?_eq_getElem hkl
    by_cases hbut:(k:Int)=but
    · subst hbut
      have HA2:Hid (ans=Cf.lst (k:Int) (ns.drop (k+1)) (k+1) cur):=by
       show _=_
       rw[HA.out,HDR.out,Cf.lst,if_neg (by simp)]
      clear HA HDR hx hgk e1 c0
      go_wp2_with fail
      go_region
      all_goals go_wp2_with fail
      all_goals
       go_roundw
       case rel=>exact⟨k+1,m+1,cur,by omega,by go_num,rfl,HA2,HC,by show _=_;rw[HW.out];rfl⟩
       case measure=>simp[intOf];omega
    have hb1:((k:Int) != but)=true:=by simp[hbut]
    have hb2:¬(k:Int)=but:=hbut
    rcases hcur:cur with _|⟨j,wj⟩
    · have HA2:Hid (ans=Cf.lst but (ns.drop (k+1)) (k+1) (some (k,x))):=by
       show _=_
       rw[HA.out,HDR.out,Cf.lst,hcur,if_pos (by simp[hbut,Cf.less]),hx]
      have HC2:Hid (∀p,some (k,x)=some p→p.1<n∧∃y,ns[p.1]?=some y∧y.1=p.2):=fun p hp=>by
       cases hp;exact⟨hlt,ns[k],hgk,hx.symm⟩
      show Code.wp _ _ _ _ _
      have hv:bestV none=-1:=rfl
      rw[hv]
      clear HA HDR hx hgk e1 c0 HC hcur
      go_wp2_with fail
      go_region
      all_goals go_wp2_with fail
      all_goals
       go_roundw
       case rel=>exact⟨k+1,m+1,some (k,x),by omega,by go_num,rfl,HA2,HC2,by show _=_;rw[HW.out];rfl⟩
       case measure=>simp[intOf];omega
    obtain⟨hj,y,hy1,hy2⟩:=HC.out (j,wj) hcur
    simp only at hj hy1 hy2
    have hjl:j<ns.length:=by rw[HN.out];exact hj
    obtain⟨g',hg',d0,-,-⟩:=HS.out.at (i:=j) (by rw[List.length_map];exact hjl)
    cases hg'
    rw[List.getElem_map] at d0
    have hyj:ns[j]=y:=by rw[List.getElem?_eq_getElem hjl] at hy1;exact Option.some.inj hy1
    rw[hyj,hy2] at d0
    have e2:wr.cell? ⟨g,j*2,none⟩=some (.int .i64 (wj:Int)):=by rw[HW.out];exact d0
    have hv:bestV (some (j,wj))=(j:Int):=rfl
    rw[hv]
    have hj0:¬(j:Int)<0:=by omega
    have hji:(j:Int)<(n:Int):=by omega
    by_cases hless:x<wj
    · have HA2:Hid (ans=Cf.lst but (ns.drop (k+1)) (k+1) (some (k,x))):=by
       show _=_
       rw[HA.out,HDR.out,Cf.lst,hcur,if_pos (by simp[hbut,Cf.less,←hx,hless]),hx]
      have HC2:Hid (∀p,some (k,x)=some p→p.1<n∧∃y,ns[p.1]?=some y∧y.1=p.2):=fun p hp=>by
       cases hp;exact⟨hlt,ns[k],hgk,hx.symm⟩
      have hli:(x:Int)<(wj:Int):=by omega
      clear HA HDR hx hgk c0 HC hcur d0 hyj hy1 hy2
      go_wp2_with fail
      go_quiet (fail)
      all_goals go_wp2_with fail
      all_goals
       go_roundw
       case rel=>exact⟨k+1,_,some (k,x),by omega,by go_num,rfl,HA2,HC2,by show _=_;rw[HW.out,World.drewN_drewN]⟩
       case measure=>simp[intOf];omega
    have HA2:Hid (ans=Cf.lst but (ns.drop (k+1)) (k+1) (some (j,wj))):=by
     show _=_
     rw[HA.out,HDR.out,Cf.lst,hcur,if_neg (by simp[Cf.less,←hx];omega)]
    have HC2:Hid (∀p,some (j,wj)=some p→p.1<n∧∃y,ns[p.1]?=some y∧y.1=p.2):=fun p hp=>HC.out p (by rw[hcur];exact hp)
    have hli:¬(x:Int)<(wj:Int):=by omega
    clear HA HDR hx hgk c0 HC hcur d0 hyj hy1 hy2
    go_wp2_with fail
    go_quiet (fail)
    all_goals go_wp2_with fail
    all_goals
     go_roundw
     case rel=>exact⟨k+1,_,some (j,wj),by omega,by go_num,rfl,HA2,HC2,by show _=_;rw[HW.out,World.drewN_drewN]⟩
     case measure=>simp[intOf];omega
  have hki:¬(k:Int)<(n:Int):=by omega
  have HF:Hid (bestV ans=bestV cur):=by
   show _=_
   rw[HA.out,List.drop_of_length_le (by rw[HN.out];omega)];rfl
  clear HA HC
  go_wp2_with fail
  go_ret
  exact⟨by rw[HF.out];rfl,m,HW.out⟩
end Go.Proofs.YtejebodgfoihkaaGreat
