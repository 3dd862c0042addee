/- slices.Compact at predicates. -/
import Derived.Test.YtdmicblafmhflaaGreatDoorC22
import Derived.BigQuiet
import Derived.Deep.QuietTactic
import Derived.Test.YtdmicblafmhflaaGreatDoorC21
import Derived.Deep.RegionLaw
import Derived.Test.YtdmicblafmhflaaGreatDoorC17
import Derived.Maps.RangeWalk
import Derived.Sort.MapsRangeIn
set_option linter.unusedSimpArgs false
set_option linter.unusedVariables false
set_option maxHeartbeats 4000000
set_option maxRecDepth 100000
namespace Go.Proofs.YtdmicblafmhflaaGreatDoor
section
open Go.RowKit
theorem Tryz.FW:(Tryz.prog.fieldsOf 112).toList=[{name:= "Name",type:=9,offset:=0,embedded:=false,tag:= "",pkgPath:= "",byteOffset:=0},{name:= "Places",type:=3,offset:=1,embedded:=false,tag:= "",pkgPath:= "",byteOffset:=16}]:=by kernel_rfl
theorem Tryz.Gi:Tryz.prog.underlying 112=some (.struct (Tryz.prog.fieldsOf 112)):=by kernel_rfl
theorem Tryz.MV:Tryz.prog.stoodInHeld 112=false:=by kernel_rfl
theorem Tryz.Kn:Tryz.prog.eqGuardType Tryz.prog.depth 112=false:=by kernel_rfl
theorem Tryz.MN(w:World):(zeroValue 112).run Tryz.prog w=.ok (.agg #[.string ByteArray.empty,.int .i64 0]) w:=by kernel_rfl
theorem oV(s t:ByteArray)(a b:Int)(w:World):(Op.equalIn 10000 112 (.agg #[.string s,.int .i64 a]) (.agg #[.string t,.int .i64 b])).run Tryz.prog w=.ok (decide (s=t∧a=b)) w:=by
 have h3:Tryz.prog.underlying 3=some (.int .i64):=Tryz.underlying3
 have h9:Tryz.prog.underlying 9=some .string:=Tryz.underlying9
 rw[run_equalIn_struct w 9999 112 _ _ Tryz.Gi Tryz.MV,Tryz.FW]
 have eu:(s=t)↔(s.toList=t.toList):=⟨fun e=>by rw[e],fun e=>Tb.toList_inj e⟩
 simp only[Op.eqFields,part,isAgg,run_underlying h3,run_underlying h9,eu]
 simp[part,isAgg,run_underlying h3,run_underlying h9,run_equalIn_int w 9998 3 .i64 .i64 a b h3,run_equalIn_string w 9998 9 s t h9]
 by_cases h1:a=b<;>by_cases h2:s.toList=t.toList<;>simp[h1,h2]
theorem Cb(s t:ByteArray)(a b:Int)(w:World):(binOp .eql 112 (.agg #[.string s,.int .i64 a]) (.agg #[.string t,.int .i64 b])).run Tryz.prog w=.ok (.bool (decide (s=t∧a=b))) w:=by
 rw[run_eql_struct,oV]
 rfl
theorem BV(s t:ByteArray)(a b:Int)(w:World):(binOp .neq 112 (.agg #[.string s,.int .i64 a]) (.agg #[.string t,.int .i64 b])).run Tryz.prog w=.ok (.bool (!decide (s=t∧a=b))) w:=by
 rw[run_neq_struct,oV]
 rfl
theorem oo(P:Program)(w:World)(t ty elem:TypeId)(z:Value)(g o n c:Nat)(cur:Array Value)(T:TypeId)(cs:List Value)(hu:P.underlying t=some (.slice elem))(hz:∀w,(zeroValue elem).run P w=.ok z w)(bH:(Builtin.zeroCells z.cells n).toList=cs)
 (hg:w.heap[g]?=some (.cells cur T (0,0)))(km:o+cs.length≤cur.size)(h1:∀v∈cs,v.oneCell'=true)(hn:0<n):
 (Builtin.clear_ #[t] ty #[.slice (some ⟨g,o,none⟩) n c]).run P w=.ok (.tuple #[]) (w.setRow g (cur.toList.take o++cs++cur.toList.drop (o+cs.length)).toArray):=by
 have eu:=run_storeCells_at P g o T cs 0 cur w hg (by simpa using km) h1
 obtain⟨m,rfl⟩:∃m,n=m+1:=⟨n-1,by omega⟩
 simp only[Nat.add_zero]at eu
 simp[Builtin.clear_,run_underlying hu,hz,bH,eu]
theorem zh(R:List Pd.Pr){j:Nat}(hj:j<R.length)(x:Pd.Pr):((aB R).set (j*2) (.string x.1)).set (j*2+1) (.int .i64 x.2)=aB (R.set j x):=by
 induction R generalizing j with
 | nil=>simp at hj
 | cons a R ih=>
  cases j with
  | zero=>simp[eC]
  | succ j=>
   have:=ih (j:=j) (by simpa using hj)
   rw[show(j+1)*2+1=(j*2+1)+1+1 by omega,show(j+1)*2=j*2+1+1 by omega]
   simp only[List.set_cons_succ,eC,this]
theorem x7(R:List Pd.Pr)(j:Nat):(aB R).take (j*2)=aB (R.take j):=by
 induction R generalizing j with
 | nil=>simp[aB]
 | cons a R ih=>
  cases j with
  | zero=>simp[aB]
  | succ j=>rw[List.take_succ_cons,eC,eC,show(j+1)*2=j*2+1+1 by omega,List.take_succ_cons,List.take_succ_cons,ih]
theorem Kj(n:Nat):(Builtin.zeroCells (Value.agg #[.string ByteArray.empty,.int .i64 0]).cells n).toList.length=n*2∧∀v∈(Builtin.zeroCells (Value.agg #[.string ByteArray.empty,.int .i64 0]).cells n).toList,v.oneCell'=true:=by
 have e:(Value.agg #[.string ByteArray.empty,.int .i64 0]).cells=#[.string ByteArray.empty,.int .i64 0]:=rfl
 rw[e]
 refine⟨by simp[Builtin.zeroCells], ?_⟩
 intro v hv
 simp only[Builtin.zeroCells,Array.toList_map,List.mem_map]at hv
 obtain⟨i,_,rfl⟩:=hv
 have h2:(#[Value.string ByteArray.empty,.int .i64 0]:Array Value).size=2:=rfl
 rw[h2]
 have:i%2=0∨i%2=1:=by omega
 rcases this with h | h<;>rw[h]<;>rfl
structure od(B:Nat)(w wr:World)(g pc:Nat)(D:List Pd.Pr)(m j:Nat)(R:List Pd.Pr):Prop where
 len:R.length=D.length
 lt:j<m
 le:m≤D.length
 TC:R.take j=Pd.mB (D.take m)
 left:R.drop (m-1)=D.drop (m-1)
 own:wr.ownsRow B 112 2 (.slice (some ⟨g,0,none⟩) D.length pc) D.length (aB R)
 kept:Kb [g] w wr
theorem od.get{B:Nat}{w wr:World}{g pc:Nat}{D:List Pd.Pr}{m j:Nat}{R:List Pd.Pr}(h:od B w wr g pc D m j R){i:Nat}(hi:m-1≤i)(hl:i<D.length):R[i]'(by rw[h.len];exact hl)=D[i]:=by
 have:=congrArg (fun l=>l[i-(m-1)]?) h.left
 simp only[List.getElem?_drop]at this
 rw[show m-1+(i-(m-1))=i by omega,List.getElem?_eq_getElem hl,List.getElem?_eq_getElem (by rw[h.len];exact hl)]at this
 simpa using this
theorem od.same{B:Nat}{w wr:World}{g pc:Nat}{D:List Pd.Pr}{m j:Nat}{R:List Pd.Pr}(h:od B w wr g pc D m j R)(hm:m<D.length)(he:D[m]=D[m-1]'(by omega)){wx:World}(hx:wx.heap=wr.heap)(hk:Kb [g] w wx):od B w wx g pc D (m+1) j R:=by
 refine⟨h.len,by have:=h.lt;omega,hm, ?_, ?_,⟨h.own.1,by rw[hx];exact h.own.2⟩,hk⟩
 · rw[Pd.je D hm (by have:=h.lt;omega),if_pos he]
   exact h.TC
 · have:=congrArg (fun l=>l.drop 1) h.left
   simp only[List.drop_drop]at this
   have h0:=h.lt
   rw[show m-1+1=m by omega]at this
   exact this
theorem od.next{B:Nat}{w wr:World}{g pc:Nat}{D:List Pd.Pr}{m j:Nat}{R:List Pd.Pr}(h:od B w wr g pc D m j R)(hm:m<D.length)(he:¬D[m]=D[m-1]'(by omega)){wx:World}(hx:wx.heap=wr.heap)(hk:Kb [g] w wx):
 od B w ((wx.setCell ⟨g,j*2,none⟩ (.string (D[m]).1)).setCell ⟨g,j*2+1,none⟩ (.int .i64 (D[m]).2)) g pc D (m+1) (j+1) (R.set j D[m]):=by
 have hox:wx.ownsRow B 112 2 (.slice (some ⟨g,0,none⟩) D.length pc) D.length (aB R):=⟨h.own.1,by rw[hx];exact h.own.2⟩
 have aE:=h.lt
 have hlen:=h.len
 refine⟨by simpa using hlen,by omega,hm, ?_, ?_, ?_,(hk.trans (Kb.setCell wx ⟨g,j*2,none⟩ _)).trans (Kb.setCell _ ⟨g,j*2+1,none⟩ _)⟩
 · rw[Pd.je D hm (by omega),if_neg he,←h.TC,List.take_add_one,List.getElem?_set_self (by omega),List.take_set_of_le (Nat.le_refl _)]
   rfl
 · rw[List.drop_set_of_lt (by omega)]
   have:=congrArg (fun l=>l.drop 1) h.left
   simp only[List.drop_drop]at this
   rw[show m-1+1=m by omega]at this
   exact this
 · have h1:=(World.ownsRow.stored hox (j*2) (.string (D[m]).1)).1
   have h2:=(World.ownsRow.stored h1 (j*2+1) (.int .i64 (D[m]).2)).1
   rw[zh R (by omega)]at h2
   exact h2
theorem uS(B:Nat)(w:World)(pd:Option Addr)(pc:Nat)(D:List Pd.Pr)(al:w.ownsRow B 112 2 (.slice pd D.length pc) D.length (aB D))(hD:D.length≤2000000):
 Calls Tryz.prog 116 #[.slice pd D.length pc] w fun e w'=>e=.returned (.slice pd (Pd.mB D).length pc)∧w'.ownsRow B 112 2 (.slice pd (Pd.mB D).length pc) (Pd.mB D).length (aB (Pd.mB D))∧Kb (Value.ownBlock (.slice pd D.length pc)).toList w w':=by
 by_cases h2:D.length<2
 · have hc:Pd.mB D=D:=by
    match D,h2 with
    | [],_=>rfl
    | [x],_=>rfl
   rw[hc]
   go_enter Tryz.func116,Tryz.ntmps116
   go_wp2_with fail
   go_ret
   exact⟨rfl,al,Kb.refl _ _⟩
 · obtain⟨g,rfl,hg,mH,bH⟩:=aD al (by omega)
   have heq:=Cb
   have ai6:=BV
   have zP:∀(op:BinOp) (x y:Operand) (xs ys:Array Value) (w:World),(eqGuard op 112 x y (.agg xs) (.agg ys)).run Tryz.prog w=.ok () w:=fun op x y xs ys w=>run_eqGuard_agg w op 112 x y xs ys Tryz.Kn
   go_enter Tryz.func116,Tryz.ntmps116
   go_wp2_with fail
   go_loopw [3] (fun v wr=>∃k m:Nat,k+1≤D.length∧v=.int .i64 ((k:Int)+1)∧wr=w.drewN m∧Pd.mB (D.take (k+1))=D.take (k+1)) (fun v _=>D.length-(intOf v).toNat)
   case atStart=>exact⟨0,0,by omega,rfl,rfl,by rw[Pd.BP D (by omega)];cases D with | nil=>simp at h2 | cons a t=>rfl⟩
   case round=>
    obtain⟨k,m,hk,rfl,rfl,XK⟩:=hrel
    have AQ:Hid (Pd.mB (D.take (k+1))=D.take (k+1)):=XK
    clear XK
    by_cases aE:k+1<D.length
    · have c0:=bH _ _ (aT D (k+1) aE).1
      have c1:=bH _ _ (aT D (k+1) aE).2
      have b0:=bH _ _ (aT D k (by omega)).1
      have b1:=bH _ _ (aT D k (by omega)).2
      generalize hx:D[k+1]=x at c0 c1
      generalize hy:D[k]=y at b0 b1
      have HX:Hid (D[k+1]=x):=hx
      have HY:Hid (D[k]=y):=hy
      clear hx hy bH
      cases hv:decide (x.1=y.1∧(x.2:Int)=(y.2:Int))
      case false=>
       go_upto_region 6 with fail
       go_quiet (fail)
       go_wp2_with fail
       go_roundw
       case rel=>
        refine⟨k+1,_,by omega,by go_num,rfl, ?_⟩
        have e0:D.take (k+1+1)=D.take (k+1)++[D[k+1]]:=by rw[List.take_add_one,List.getElem?_eq_getElem aE];rfl
        rw[Pd.je D aE (by omega),if_neg,AQ.out,e0]
        · intro e
          have e2:x=y:=by rw[←HX.out,←HY.out];exact e
          subst e2
          simp at hv
       case measure=>simp[intOf];omega
      case true=>
       have RA:x=y:=by
        simp at hv
        exact Prod.ext hv.1 (by have:=hv.2;omega)
       have yD:Hid (∀q:Nat,od B w (w.drewN q) g pc D (k+2) (k+1) D):=by
        intro q
        refine⟨rfl,by omega,aE, ?_,rfl,⟨al.1,al.2⟩,⟨rfl,rfl,rfl,Nat.le_refl _,fun _ _ _=>rfl⟩⟩
        rw[Pd.je D aE (by omega),if_pos,AQ.out]
        rw[HX.out,RA,←HY.out]
        rfl
       go_upto_region 6 with fail
       go_quiet (fail)
       go_wp2_with fail
       clear RA c0 c1 b0 b1 hv HX HY AQ
       go_loopw [3,5] (fun a b wr=>∃(j q:Nat) (R:List Pd.Pr),a=.int .i64 j∧b=.int .i64 ((q:Int)+1)∧od B w wr g pc D (k+q+2) j R) (fun _ b _=>D.length-(intOf b).toNat)
       case atStart=>exact⟨k+1,0,D,by go_num,rfl,yD.out _⟩
       case round=>
        obtain⟨j,q,R,rfl,rfl,sO⟩:=hrel
        have AQ:Hid (od B w wr g pc D (k+q+2) j R):=sO
        have hRl:=sO.len
        have E5:=sO.lt
        have hle:=sO.le
        obtain⟨g',e0,V6,afS,bH⟩:=aD sO.own (by omega)
        obtain rfl:g=g':=by simpa using e0
        by_cases mP:k+q+2<D.length
        · have c0:=bH _ _ (aT R (k+q+2) (by omega)).1
          have c1:=bH _ _ (aT R (k+q+2) (by omega)).2
          have b0:=bH _ _ (aT R (k+q+1) (by omega)).1
          have b1:=bH _ _ (aT R (k+q+1) (by omega)).2
          rw[sO.get (by omega) mP]at c0 c1
          rw[sO.get (by omega) (show k+q+1<D.length by omega)]at b0 b1
          clear sO
          generalize hx:D[k+q+2]=x at c0 c1
          generalize hy:D[k+q+1]=y at b0 b1
          have HX:Hid (D[k+q+2]=x):=hx
          have HY:Hid (D[k+q+1]=y):=hy
          clear hx hy
          rw[show(k+q+2)*2=(k+1)*2+(q+1)*2 by omega]at c0 c1
          rw[show(k+q+1)*2=(k+1)*2+q*2 by omega]at b0 b1
          cases hv:decide (x.1=y.1∧(x.2:Int)=(y.2:Int))
          case true=>
           have HV:Hid (x=y):=by
            simp at hv
            exact Prod.ext hv.1 (by have:=hv.2;omega)
           go_upto_region 11 with fail
           go_quiet (fail)
           go_wp2_with fail
           go_roundw
           case rel=>exact⟨j,q+1,R,rfl,by go_num,AQ.out.same mP (by rw[HX.out,HV.out,←HY.out];rfl) rfl ⟨AQ.out.kept.os,AQ.out.kept.tape,AQ.out.kept.output,AQ.out.kept.size,AQ.out.kept.block⟩⟩
           case measure=>simp[intOf];omega
          case false=>
           have HV:Hid (¬x=y):=fun e=>by subst e;simp at hv
           have s0:∃v,wr.cell? ⟨g,j*2,none⟩=some v:=⟨_,bH _ _ (aT R j (by omega)).1⟩
           have s1:∃v,wr.cell? ⟨g,j*2+1,none⟩=some v:=⟨_,bH _ _ (aT R j (by omega)).2⟩
           obtain⟨v0,s0⟩:=s0
           obtain⟨v1,s1⟩:=s1
           have f0:wr.frozen? ⟨g,j*2,none⟩=false:=by
            obtain⟨cur,e⟩:=aH AQ.out.own (b:=g) rfl
            simp[World.frozen?,e]
           have f1:wr.frozen? ⟨g,j*2+1,none⟩=false:=by
            obtain⟨cur,e⟩:=aH AQ.out.own (b:=g) rfl
            simp[World.frozen?,e]
           clear bH
           go_upto_region 11 with fail
           go_quiet (fail)
           go_wp2_with fail
           go_roundw
           case rel=>
            refine⟨j+1,q+1,R.set j x,by go_num,by go_num, ?_⟩
            have:=AQ.out.next mP (by rw[HX.out];intro e;exact HV.out (e.trans HY.out)) (wx:=wr.drewN nq) rfl ⟨AQ.out.kept.os,AQ.out.kept.tape,AQ.out.kept.output,AQ.out.kept.size,AQ.out.kept.block⟩
            rw[HX.out]at this
            exact this
           case measure=>simp[intOf];omega
        · have vA:k+q+2=D.length:=by omega
          rw[vA]at sO E5
          obtain⟨cur,Cc,CB,Ga,sK⟩:∃cur:Array Value,wr.heap[g]?=some (.cells cur 112 (0,0))∧pc≤maxLen∧cur.size=pc*2∧cur.toList.take (D.length*2)=aB R:=by
           rcases sO.own.2 with⟨e,_⟩ | ⟨g',cap,cur,e,_,q1,_,q4,q2,q3⟩
           · simp at e
           · simp only[Value.slice.injEq,Option.some.injEq,Addr.mk.injEq,and_true,true_and]at e
             obtain⟨rfl,rfl⟩:=e
             exact⟨cur,q1,q4,q2,q3⟩
          obtain⟨zs,uB⟩:∃zs,zs=(Builtin.zeroCells (Value.agg #[.string ByteArray.empty,.int .i64 0]).cells (D.length-j)).toList:=⟨_,rfl⟩
          obtain⟨dZ,dU⟩:=Kj (D.length-j)
          rw[←uB]at dZ dU
          obtain⟨row,bQ⟩:∃row,row=(cur.toList.take (j*2)++zs++cur.toList.drop (j*2+zs.length)).toArray:=⟨_,rfl⟩
          have abT:∀ty,(Builtin.clear_ #[144] ty #[.slice (some ⟨g,j*2,none⟩) (D.length-j) (pc-j)]).run Tryz.prog wr=.ok (.tuple #[]) (wr.setRow g row):=fun ty=>by rw[bQ];exact oo Tryz.prog wr 144 ty 112 _ g (j*2) (D.length-j) (pc-j) cur 112 zs Tryz.underlying144 Tryz.MN uB.symm Cc (by omega) dU (by omega)
          have ss:Hid ((wr.setRow g row).ownsRow B 112 2 (.slice (some ⟨g,0,none⟩) (Pd.mB D).length pc) (Pd.mB D).length (aB (Pd.mB D))∧Kb [g] w (wr.setRow g row)∧(Pd.mB D).length=j):=by
           subst bQ
           have ht:=sO.TC
           rw[List.take_length]at ht
           have rJ:(Pd.mB D).length=j:=by rw[←ht,List.length_take];omega
           have hB:B≤g:=(sO.own.lt g rfl).1
           have hmx:=bh sO.own
           refine⟨⟨lU _,.inr ⟨g,pc,_,rfl,hB,bt wr g _ Cc,by omega,CB, ?_, ?_⟩⟩,sO.kept.trans (Kb.setRow wr g _),rJ⟩
           · simp[Ga,dZ];omega
           · rw[rJ,←ht,←x7,←sK]
             simp only[List.toList_toArray,List.append_assoc]
             rw[List.take_append_of_le_length (by simp[Ga];omega),List.take_take,List.take_take]
             congr 1
             omega
          clear sO bH AQ Cc Ga sK uB dZ dU bQ
          go_wp2_with fail
          go_ret
          exact⟨by rw[ss.out.2.2];rfl,ss.out.1,ss.out.2.1⟩
    · have vA:D.take (k+1)=D:=List.take_of_length_le (by omega)
      have HE:Hid (Pd.mB D=D):=by
       have:=AQ.out
       rw[vA]at this
       exact this
      go_wp2_with fail
      go_ret
      rw[HE.out]
      exact⟨rfl,al,⟨rfl,rfl,rfl,Nat.le_refl _,fun _ _ _=>rfl⟩⟩
end
/- slices.Delete of one row. -/
section
open Go.RowKit
theorem bX(g:Nat){T:TypeId}:∀(vs:List Value) (o:Nat) (cur:Array Value) (w:World),w.heap[g]?=some (.cells cur T (0,0))→o+vs.length≤cur.size→
 (w.setCells g o vs).heap[g]?=some (.cells (cur.toList.take o++vs++cur.toList.drop (o+vs.length)).toArray T (0,0))∧Kb [g] w (w.setCells g o vs)
 | [],o,cur,w,h,hl=>by
  refine⟨?_,Kb.refl _ _⟩
  simpa [World.setCells]using h
 | v::vs,o,cur,w,h,hl=>by
  have h1:=an w h o v
  rw[List.length_cons]at hl
  obtain⟨h2,h3⟩:=bX g vs (o+1) _ _ h1 (by simp;omega)
  refine⟨?_,(Kb.setCell w ⟨g,o,none⟩ v).trans h3⟩
  show((w.setCell ⟨g,o,none⟩ v).setCells g (o+1) vs).heap[g]?=_
  rw[h2]
  have e1:(cur.setIfInBounds o v).toList.take (o+1)=cur.toList.take o++[v]:=by
   rw[Array.toList_setIfInBounds,List.take_add_one,List.take_set_of_le (Nat.le_refl _),List.getElem?_set_self (by simp;omega)]
   rfl
  have e2:(cur.setIfInBounds o v).toList.drop (o+1+vs.length)=cur.toList.drop (o+(vs.length+1)):=by
   rw[Array.toList_setIfInBounds,List.drop_set_of_lt (by omega)]
   congr 1
   omega
  rw[e1,e2]
  simp
def e3:List Value:=[.string ByteArray.empty,.string ByteArray.empty,.string ByteArray.empty]
theorem KV:(Builtin.zeroCells (Value.agg #[.string ByteArray.empty,.string ByteArray.empty,.string ByteArray.empty]).cells 1).toList=e3:=by
 have e:(Value.agg #[.string ByteArray.empty,.string ByteArray.empty,.string ByteArray.empty]).cells=#[.string ByteArray.empty,.string ByteArray.empty,.string ByteArray.empty]:=rfl
 rw[e]
 simp[Builtin.zeroCells]
 rfl
theorem zE(w:World)(g rc i j n:Nat)(xs:List Value)(hj:j=i+1)(PE:j≤n)(al:w.ownsRow 0 119 3 (.slice (some ⟨g,0,none⟩) n rc) n xs)(pQ:∀u∈xs,u.oneCell'=true)(hn:n≤1000000):
 Calls Tryz.prog 197 #[.slice (some ⟨g,0,none⟩) n rc,.int .i64 i,.int .i64 j] w fun e w'=>e=.returned (.slice (some ⟨g,0,none⟩) (i+(n-j)) rc)∧
  w'.ownsRow 0 119 3 (.slice (some ⟨g,0,none⟩) (i+(n-j)) rc) (i+(n-j)) (xs.take (i*3)++xs.drop (j*3))∧Kb [g] w w':=by
 have nT:xs.length=n*3:=al.1
 obtain⟨cur,Cc,hrc,CB,Ga,sK⟩:∃cur:Array Value,w.heap[g]?=some (.cells cur 119 (0,0))∧n≤rc∧rc≤maxLen∧cur.size=rc*3∧cur.toList.take (n*3)=xs:=by
  rcases al.2 with⟨e,_⟩ | ⟨g',cap,cur,e,_,q1,q5,q4,q2,q3⟩
  · simp at e
  · simp only[Value.slice.injEq,Option.some.injEq,Addr.mk.injEq,and_true,true_and]at e
    obtain⟨rfl,rfl⟩:=e
    exact⟨cur,q1,q5,q4,q2,q3⟩
 obtain⟨i0,hi,ew,dZ,dU⟩:=info_parts Tryz.rH
 obtain⟨news,et⟩:∃news,news=xs.drop (j*3):=⟨_,rfl⟩
 have GH:news.length=(n-j)*3:=by rw[et,List.length_drop];omega
 obtain⟨W1,ry⟩:∃W1,W1=w.drew.setCells g (0+i*3) news:=⟨_,rfl⟩
 obtain⟨A,hA,TV⟩:∃A:Addr,(if rc=j then some (⟨g,0,none⟩:Addr)else some ⟨g,j*3,none⟩)=some A∧Hid (∀t u,news[t]?=some u→w.drew.cell? (A.add t)=some u):=by
  by_cases h:rc=j
  · refine⟨⟨g,0,none⟩,by simp[h],fun t u hu=> ?_⟩
    have h0:news.length=0:=by rw[GH];omega
    rw[List.length_eq_zero_iff.1 h0]at hu
    simp at hu
  · refine⟨⟨g,j*3,none⟩,by simp[h],fun t u hu=> ?_⟩
    have aE:=(List.getElem?_eq_some_iff.1 hu).1
    rw[et,←sK,List.getElem?_drop,List.getElem?_take]at hu
    split at hu
    · rw[Addr.add_lit]
      show w.cell? ⟨g,j*3+t,none⟩=some u
      rw[cell_of_row _ _ _ _ _ _ Cc]
      simpa using hu
    · simp at hu
 have s1:Hid (news.length=(n-j)*3):=GH
 have s2:Hid (∀u∈news,u.oneCell'=true):=fun u hu=>pQ u (by rw[et]at hu;exact List.mem_of_mem_drop hu)
 have s3:Hid (∀t,t<news.length→(w.drew.cell? ⟨g,0+i*3+t,none⟩).isSome=true∧w.drew.frozen? ⟨g,0+i*3+t,none⟩=false):=by
  intro t ht
  refine⟨?_, ?_⟩
  · show(w.cell? ⟨g,0+i*3+t,none⟩).isSome=true
    rw[cell_of_row _ _ _ _ _ _ Cc,Array.getElem?_eq_getElem (by omega)]
    rfl
  · show w.frozen? ⟨g,0+i*3+t,none⟩=false
    simp[World.frozen?,Cc]
 have HI:Hid (Tryz.prog.info? 119=some i0):=hi
 have HZ:Hid (i0.size=3):=dZ
 have hW:Hid (W1=w.drew.setCells g (0+i*3) news):=ry
 obtain⟨q1,q2⟩:=bX g news (0+i*3) cur w.drew Cc (by omega)
 rw[←ry]at q1 q2
 obtain⟨ZA,Rt⟩:∃c:Array Value,c=(cur.toList.take (0+i*3)++news++cur.toList.drop (0+i*3+news.length)).toArray:=⟨_,rfl⟩
 rw[←Rt]at q1
 have uD:ZA.size=rc*3:=by rw[Rt];simp;omega
 have hzz:(Builtin.zeroCells (Value.agg #[.string ByteArray.empty,.string ByteArray.empty,.string ByteArray.empty]).cells (n-(i+(n-j)))).toList=e3:=by
  rw[show n-(i+(n-j))=1 by omega]
  exact KV
 obtain⟨W2,tL⟩:∃W2,W2=W1.setRow g (ZA.toList.take ((i+(n-j))*3)++e3++ZA.toList.drop ((i+(n-j))*3+e3.length)).toArray:=⟨_,rfl⟩
 have abT:∀ty,(Builtin.clear_ #[113] ty #[.slice (some ⟨g,(i+(n-j))*3,none⟩) (n-(i+(n-j))) (rc-(i+(n-j)))]).run Tryz.prog W1=.ok (.tuple #[]) W2:=fun ty=>by
  rw[tL]
  exact oo Tryz.prog W1 113 ty 119 _ g ((i+(n-j))*3) (n-(i+(n-j))) (rc-(i+(n-j))) ZA 119 _ Tryz.underlying113 Tryz.zeroValue119 hzz q1 (by simp[e3];omega) (by intro v hv;simp[e3]at hv;rw[hv];rfl) (by omega)
 have ss:Hid (W2.ownsRow 0 119 3 (.slice (some ⟨g,0,none⟩) (i+(n-j)) rc) (i+(n-j)) (xs.take (i*3)++news)∧Kb [g] w W2):=by
  rw[tL]
  refine⟨⟨by simp[GH,nT];omega,.inr ⟨g,rc,_,rfl,Nat.zero_le _,bt W1 g _ q1,by omega,CB,by simp[uD,e3];omega, ?_⟩⟩,((Kb.refl [g] w).drew.trans q2).trans (Kb.setRow W1 g _)⟩
  simp only[List.toList_toArray,List.append_assoc]
  rw[List.take_append_of_le_length (by simp[uD];omega),List.take_take,Nat.min_self,Rt]
  simp only[List.toList_toArray,List.append_assoc]
  rw[←sK,←List.append_assoc,List.take_append_of_le_length (by simp[GH,Ga];omega),List.take_of_length_le (by simp[GH,Ga];omega),List.take_take,Nat.zero_add]
  congr 2
  omega
 rw[←et]
 have hWg:g<W1.heap.size:=lt_of_heap q1
 have Yt:i<j:=by omega
 have cA:((i:Int)==(j:Int))=false:=beq_eq_false_iff_ne.2 (by omega)
 have HJ:Hid (j=i+1):=hj
 have hic:i≤rc:=by omega
 have hjc:j≤rc:=by omega
 clear al q1 q2 Rt uD ry tL hzz et GH sK Ga hi ew dZ dU nT pQ Cc hj
 go_enter Tryz.func197,Tryz.ntmps197
 go_wp2_with fail
 go_region_law (refine step_append_room rfl (.tmp 22) (.tmp 25) 113 rfl 119 i0 3 Tryz.underlying113 HI.out HZ.out g 0 i rc (by simp[Act.eval,Act.put]) A (n-j) (rc-j) news (by simp[Act.eval,Act.put]) s1.out TV.out s2.out (by omega) s3.out ?_;rw[←hW.out])
 go_wp2_with fail
 go_ret
 exact⟨rfl,ss.out⟩
end
/- facts.Given.Leave. -/
section
open Go.RowKit
open Go.Sort (grow)
theorem JW{L:List (List ByteArray)}{r:List ByteArray}(h:Tb.mD L r=true)(ho:Tb.Ord L):Tb.pos L r<L.length∧(Tb.leave L r).length=Tb.pos L r+(L.length-(Tb.pos L r+1))∧Tb.leave L r=L.take (Tb.pos L r)++L.drop (Tb.pos L r+1):=by
 have aE:Tb.pos L r<L.length:=(List.getElem?_eq_some_iff.1 ((Tb.fM ho _).2 (Tb.dW.1 h))).1
 have e:Tb.leave L r=L.take (Tb.pos L r)++L.drop (Tb.pos L r+1):=by unfold Tb.leave;rw[h];rfl
 refine⟨aE, ?_,e⟩
 rw[e]
 simp
 omega
theorem Ks(w:World)(g:Nat)(nm:ByteArray)(pl:Nat)(rd:Option Addr)(rc:Nat)(L:List (List ByteArray))(a b c:ByteArray)(h:cp w g 125 nm pl rd rc L [])(hL:L.length≤999999):
 Calls Tryz.prog 128 #[.pointer (some ⟨g,0,none⟩),.agg #[.string a,.string b,.string c]] w fun e w'=>
  e=.returned (.tuple #[])∧cp w' g 125 nm pl rd rc (Tb.leave L [a,b,c]) []∧Kb (g::(Value.ownBlock (.slice rd L.length rc)).toList) w w':=by
 obtain⟨w0,cZ⟩:∃w0,w0=w.alloc (.cells #[.string a,.string b,.string c] 119):=⟨_,rfl⟩
 have bL:Below w.heap.size w w0:=by rw[cZ];exact(Below.refl _ _).alloc (Nat.le_refl _) _
 have lY:w0.heap[w.heap.size]?=some (.cells #[.string a,.string b,.string c] 119 (0,0)):=by rw[cZ];exact heap_alloc_new w _
 have t0:w0.cell? ⟨w.heap.size,0,none⟩=some (.string a):=by rw[cell_of_row _ _ 0 _ _ _ lY];rfl
 have t1:w0.cell? ⟨w.heap.size,1,none⟩=some (.string b):=by rw[cell_of_row _ _ 1 _ _ _ lY];rfl
 have t2:w0.cell? ⟨w.heap.size,2,none⟩=some (.string c):=by rw[cell_of_row _ _ 2 _ _ _ lY];rfl
 have h0:=h.below bL
 have ue:Hid (∀W,Below w0.heap.size w0 W→Calls Tryz.prog 75 #[.pointer (some ⟨g,0,none⟩),.agg #[.string a,.string b,.string c]] W fun e w'=>e=.returned (.tuple #[.int .i64 (Tb.pos L [a,b,c]:Nat),.bool (Tb.mD L [a,b,c])])∧Hid (Below w.heap.size w w')∧w'.cell? ⟨g,2,none⟩=some (.slice rd L.length rc)∧g<w'.heap.size):=by
  intro W hW
  have h1:=h0.below hW
  refine(rZ W g rd rc L a b c h1.rows (by omega) h1.ord h1.lH.1).mono ?_
  rintro e w' ⟨rfl,hb⟩
  have qL:Below w.heap.size w W:=bL.trans (hW.mono bL.size)
  have ti:Below w.heap.size w w':=qL.trans (hb.mono qL.size)
  exact⟨rfl,ti,(h.below ti).lH.1,lt_of_heap (h.below ti).cT⟩
 have mO:=lt_of_heap h.cT
 have HT:Hid (cp w g 125 nm pl rd rc L []):=h
 cases dN:Tb.mD L [a,b,c]with
 | false=>
  rw[dN]at ue
  have Wp:Tb.leave L [a,b,c]=L:=by unfold Tb.leave;rw[dN];rfl
  rw[Wp]
  generalize Tb.pos L [a,b,c]=ps at ue
  clear h h0 lY dN Wp
  go_enter Tryz.func128,Tryz.ntmps128
  go_wp2_with fail
  rw[←cZ]
  clear cZ
  go_region_with (go_at_call 75;refine(ue.out _ (by exact(Below.refl _ _).drew)).mono ?_;rintro e w1 ⟨rfl,HE,Kk,fq⟩)
  all_goals
   go_wp2_with fail
   go_end0
   exact⟨rfl,HT.out.below HE.out,Kb.bF HE.out _⟩
 | true=>
  rw[dN]at ue
  obtain⟨aE,yE,hle⟩:=JW dN h.ord
  obtain⟨gr,rfl⟩:∃gr,rd=some ⟨gr,0,none⟩:=by
   obtain⟨gr,_,_,_,e,_⟩:=h.rows.at aE
   exact⟨gr,e⟩
  have WD:Hid (∀W,Below w.heap.size w W→Calls Tryz.prog 197 #[.slice (some ⟨gr,0,none⟩) L.length rc,.int .i64 (Tb.pos L [a,b,c]:Nat),.int .i64 ((Tb.pos L [a,b,c]:Nat)+1)] W fun e w3=>e=.returned (.slice (some ⟨gr,0,none⟩) (Tb.leave L [a,b,c]).length rc)∧
   Hid (cp (w3.setCell ⟨g,2,none⟩ (.slice (some ⟨gr,0,none⟩) (Tb.leave L [a,b,c]).length rc)) g 125 nm pl (some ⟨gr,0,none⟩) rc (Tb.leave L [a,b,c]) []∧Kb (g::(Value.ownBlock (.slice (some ⟨gr,0,none⟩) L.length rc)).toList) w (w3.setCell ⟨g,2,none⟩ (.slice (some ⟨gr,0,none⟩) (Tb.leave L [a,b,c]).length rc)))∧w3.cell? ⟨g,2,none⟩=some (.slice (some ⟨gr,0,none⟩) L.length rc)∧w3.frozen? ⟨g,2,none⟩=false∧g<w3.heap.size):=by
   intro W hW
   have h1:=h.below hW
   refine(zE W gr rc (Tb.pos L [a,b,c]) (Tb.pos L [a,b,c]+1) L.length (aM L) rfl aE h1.rows.own (np L) (by omega)).mono ?_
   rintro e w3 ⟨rfl,q1,q2⟩
   have G3:g≠gr:=by
    have:=h.apart
    simpa [Value.ownBlock]using this
   have eA:w3.heap[g]?=_:=q2.heap h1.cT (by simpa using G3)
   rw[←yE]at q1 ⊢
   have hk:Kb (g::(Value.ownBlock (.slice (some ⟨gr,0,none⟩) L.length rc)).toList) w w3:=(Kb.bF hW _).trans (q2.mono (fun x hx _=>by simp at hx;simp[Value.ownBlock,hx]))
   refine⟨rfl,⟨⟨?_,⟨?_, ?_⟩,Tb.KQ h.ord _,h.type⟩,hk.trans ((Kb.setCell w3 ⟨g,2,none⟩ _).mono (fun x hx _=>by simp at hx;simp[hx]))⟩, ?_, ?_,lt_of_heap eA⟩
   · rw[an _ eA]
     simp[Array.setIfInBounds]
   · intro r hr
     rw[hle]at hr
     rcases List.mem_append.1 hr with hr | hr
     · exact h.rows.three r (List.mem_of_mem_take hr)
     · exact h.rows.three r (List.mem_of_mem_drop hr)
   · have e1:aM (Tb.leave L [a,b,c])=(aM L).take (Tb.pos L [a,b,c]*3)++(aM L).drop ((Tb.pos L [a,b,c]+1)*3):=by
      rw[hle,rp,lM _ h.rows.three,ja _ h.rows.three]
     rw[e1]
     exact(Kb.setCell w3 ⟨g,2,none⟩ _).row q1 (fun x hx=>by simp[Value.ownBlock]at hx;simp;omega)
   · rw[cell_of_row _ _ 2 _ _ _ eA];simp
   · simp[World.frozen?,eA]
  generalize Tb.leave L [a,b,c]=L' at WD ⊢
  have lj:Tb.pos L [a,b,c]<1000000:=by omega
  generalize Tb.pos L [a,b,c]=ps at ue WD lj
  clear h h0 lY dN hle yE aE
  go_enter Tryz.func128,Tryz.ntmps128
  go_wp2_with fail
  rw[←cZ]
  clear cZ
  go_region_with (go_at_call 75;refine(ue.out _ (by exact(Below.refl _ _).drew)).mono ?_;rintro e w1 ⟨rfl,HE,Kk,fq⟩)
  all_goals
   go_wp2_with (go_at_call 197;refine(WD.out _ HE.out).mono ?_;rintro e w3 ⟨rfl,HF,uY,hf3,nL⟩)
   go_end0
   exact⟨rfl,HF.out.1,HF.out.2⟩
end
/- facts.Total at what was given. -/
section
open Go.RowKit Go.Maps
def jP(left:Lit→Bool)(G:List GT):List GT:=G.filter fun t=>left (aY t.nm)
def mW(G:List GT):Nat:=(G.map fun t=>t.L.length).sum
theorem wE{left:Lit→Bool}{G:List GT}(h:∀kl,left kl=false):jP left G=[]:=by simp[jP,h]
theorem JQ{G:List GT}(hn:(G.map GT.nm).Nodup){left:Lit→Bool}{t:GT}(ht:t∈G)(hl:left (aY t.nm)=true):
 mW (jP left G)=mW (jP (fun z=>left z&& !z.sameKey (aY t.nm)) G)+t.L.length:=by
 induction G with
 | nil=>simp at ht
 | cons a G ih=>
  simp only[List.map_cons,List.nodup_cons]at hn
  unfold jP mW at ih ⊢
  rcases List.mem_cons.1 ht with rfl | ht
  · have e1:G.filter (fun z=>left (aY z.nm)&& !(aY z.nm).sameKey (aY t.nm))=G.filter (fun z=>left (aY z.nm)):=by
     refine List.filter_congr fun z hz=> ?_
     have:(aY z.nm).sameKey (aY t.nm)=false:=sameKey_ne (fun e=>hn.1 (by rw[←j8 e];exact List.mem_map_of_mem hz))
     simp[this]
    have e2:(aY t.nm).sameKey (aY t.nm)=true:=by simp[Lit.sameKey,aY]
    simp only[List.filter_cons,hl,e2,e1]
    simp
    omega
  · have h1:=ih hn.2 ht
    have:(aY a.nm).sameKey (aY t.nm)=false:=sameKey_ne (fun e=>hn.1 (by rw[j8 e];exact List.mem_map_of_mem ht))
    simp only[List.filter_cons,this]
    cases left (aY a.nm)<;>simp at h1 ⊢ <;>omega
theorem CM:∀{G:List GT} {x:ByteArray} {g:Nat},Ax.look (G.map GT.key) x=some g→∃t,t∈G∧t.nm=x∧t.g=g
 | [],x,g,h=>by simp[Ax.look]at h
 | a::G,x,g,h=>by
  rw[List.map_cons]at h
  have e:Ax.look (a.key::G.map GT.key) x=if a.nm=x then some a.g else Ax.look (G.map GT.key) x:=iV ..
  rw[e]at h
  split at h
  · rename_i e
    exact⟨a,by simp,e,Option.some.inj h⟩
  · obtain⟨t,ht,h1⟩:=CM h
    exact⟨t,by simp[ht],h1⟩
theorem uj(v:Value)(y:DataW Unit×List MemPlace)(h:cR v=some y):∃c,v=.pointer c:=by
 unfold cR at h
 split at h
 · exact⟨_,rfl⟩
 · exact⟨_,rfl⟩
 · cases h
theorem uJ{G:List GT}{D:DataW Unit}(hD:GO D (G.map GT.key)){left:Lit→Bool}(hl:∀kl,left kl=true→has D kl=true){x:ByteArray}{c:Option Addr}{kl:Lit}{y:DataW Unit×List MemPlace}
 (hk:keyOf Tryz.prog 9 (.string x)=some kl)(T7:left kl=true)(hR:cR (.pointer c)=some y)(va:∀zd,D.atKey kl zd=y.1):kl=aY x∧∃t,t∈G∧t.nm=x∧c=some ⟨t.g,0,none⟩:=by
 have e:kl=aY x:=by
  simp[keyOf,Tryz.underlying9,mapKey]at hk
  exact hk.2.symm
 subst e
 have h1:=hl _ T7
 rw[(hD x).1]at h1
 obtain⟨g,hg⟩:=Option.isSome_iff_exists.1 h1
 obtain⟨t,ht,h2,h3⟩:=CM hg
 have h4:=(hD x).2 g hg
 rw[va]at h4
 obtain⟨y1,y2⟩:=y
 simp only at h4
 subst h4
 have:=om hR
 refine⟨rfl,t,ht,h2, ?_⟩
 rw[h3]
 simpa using this
theorem I2(g n:Nat)(w:World):(method (n+1) 122 (.pointer (some ⟨g,0,none⟩)) "Len").run Tryz.prog w=.ok (136,.pointer (some ⟨g,0,none⟩)) w:=by
 kernel_rfl
theorem Lm(w:World)(mb:Nat)(G:List GT)(h:lJ w mb G)(hs:mW G≤1000000):
 Calls Tryz.prog 110 #[.map (some mb)] w fun e w'=>e=.returned (.int .i64 (mW G:Nat))∧Below w.heap.size w w':=by
 obtain⟨n,D,al,hn,hD⟩:=h.map.has
 have fl:=al.lt
 have HG:Hid (lJ w mb G):=h
 have HD:Hid (GO D (G.map GT.key)):=hD
 clear h hD
 go_enter Tryz.func110,Tryz.ntmps110
 go_wp2_with (first
  | (at_range;refine wpList_range_own _ rfl _ 102 rfl 9 122 Tryz.gz Tryz.underlying102 _ mb n _ rfl al ?_;intro w0 P6 mN E9)
  | go_in)
 go_frame
 go_loopw [3,8] (fun v _ wr=>∃(left:Lit→Bool) (lC k:Nat),wr.ranges Tryz.prog 9 cR mb w.heap.size n D left lC∧(∀kl,left kl=true→has D kl=true)∧v=.int .i64 k∧k+mW (jP left G)=mW G∧Below w.heap.size w wr)
  (fun _ _ wr=>wr.rangeLeft mb w.heap.size)
 case atStart=>
  refine⟨_,_,0,P6,fun _ h=>h,rfl, ?_,(Below.refl _ w).grown mN (Nat.le_refl _) (fun j hj=>by cases hj)⟩
  have e:jP (has D) G=G:=by
   refine List.filter_eq_self.2 fun t ht=> ?_
   rw[(HD.out t.nm).1,iH HG.out.names ht]
   rfl
  rw[e,Nat.zero_add]
 case round=>
  obtain⟨left,lC,k,V7,Wy,rfl,Ug,hb⟩:=hrel
  go_wp2_with (first
   | (at_next;refine wpList_next_ranges _ rfl _ rfl 9 Tryz.gz cR Value.string Value.pointer (fun key kl l7=>Maps.keyOf_string_inv Tryz.underlying9 l7) uj mb w.heap.size n _ _ _ rfl V7 ?_ ?_)
   | go_in)
  · intro Mi Ma
    rw[wE Ma]at Ug
    have hk:k=mW G:=Ug
    subst hk
    go_wp2
    go_ret
    exact⟨rfl,hb⟩
  · intro x c kl y ps w1 Li R5 T7 hRc va Ky aE fq kA hen
    obtain⟨rfl,t,ht,rfl,rfl⟩:=uJ HD.out Wy R5 T7 hRc va
    have eu:=JQ HG.out.names ht T7
    have a8:Below w.heap.size w w1:=hb.grown fq hb.size (fun j hj=>by cases hj;exact Nat.le_refl _)
    have hT:cp w1 t.g 125 t.nm t.pl t.rd t.rc t.L []:=(HG.out.b8 t ht).below a8
    have X6:=IE w1 t.g _ _ _ _ _ _ _ hT
    have B3:=lt_of_heap hT.cT
    have hm:=I2 t.g
    have Mm:Hid (k+t.L.length+mW (jP (fun z=>left z&& !z.sameKey (aY t.nm)) G)=mW G):=by
     show k+t.L.length+mW (jP (fun z=>left z&& !z.sameKey (aY t.nm)) G)=mW G
     omega
    have Cz:k+t.L.length≤1000000:=by have:=Mm.out;omega
    generalize t.L.length=tl at X6 Cz Mm
    clear eu Ug hT
    go_wp2_with (go_at_call 136;refine X6.mono ?_;rintro e w2 ⟨rfl,rfl⟩)
    go_roundw
    case rel=>exact⟨_,Li,k+tl,Ky,fun kl h=>Wy kl (by simp at h;exact h.1),by go_num,Mm.out,a8⟩
    case measure=>rw[Ky.left_eq,V7.left_eq];exact aE
end
end Go.Proofs.YtdmicblafmhflaaGreatDoor
