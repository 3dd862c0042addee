/- slices.Compare at strings; compareRows. -/
import Derived.Test.YtdmicblafmhflaaGreatDoorC13
import Derived.Test.YtdmicblafmhflaaGreatDoorC07
import Derived.Deep.RegionWith
import Derived.Deep.CutRange
import Derived.Deep.LoopGhost
import Derived.Lib.QuietBelow
set_option linter.unusedSimpArgs false
set_option linter.unusedVariables false
set_option maxHeartbeats 2000000
set_option maxRecDepth 100000
namespace Go.Proofs.YtdmicblafmhflaaGreatDoor
section
open Go.RowKit
theorem CG(w:World)(p q:List ByteArray)(g h c d:Nat)(hl:q.length=p.length)(hc:p.length≤c)(hd:q.length≤d)(xE:p.length≤1000)
 (hp:∀(j:Nat) v,p[j]?=some v→w.cell? ⟨g,j,none⟩=some (.string v))(hq:∀(j:Nat) v,q[j]?=some v→w.cell? ⟨h,j,none⟩=some (.string v)):
 Calls Tryz.prog 199 #[.slice (some ⟨g,0,none⟩) p.length c,.slice (some ⟨h,0,none⟩) q.length d] w fun e w'=>e=.returned (.int .i64 (Tb.db p q))∧w'=w:=by
 generalize hR:Tb.db p q=R
 have HP:Hid (∀(j:Nat) v,p[j]?=some v→w.cell? ⟨g,j,none⟩=some (.string v)):=hp
 have HQ:Hid (∀(j:Nat) v,q[j]?=some v→w.cell? ⟨h,j,none⟩=some (.string v)):=hq
 clear hp hq
 generalize hm:q.length=m at hl hd
 have HM:Hid (q.length=m):=hm
 clear hm
 have hmn:m≤p.length:=by omega
 have iG:p.length≤m:=by omega
 clear hl
 go_enter Tryz.func199,Tryz.ntmps199
 go_wp2_with fail
 go_loop [11] (fun i=>∃k:Nat,k≤p.length∧i=.int .i64 k∧Tb.db (p.drop k) (q.drop k)=R) (fun i=>p.length-(intOf i).toNat)
 case atStart=>exact⟨0,Nat.zero_le _,rfl,by simpa using hR⟩
 case round=>
  obtain⟨k,hk,rfl,hr⟩:=hrel
  by_cases aC:k<p.length
  · have pw:k<q.length:=by rw[HM.out];omega
    have hx:=HP.out k _ (List.getElem?_eq_getElem aC)
    have hy:=HQ.out k _ (List.getElem?_eq_getElem pw)
    rw[List.drop_eq_getElem_cons aC,List.drop_eq_getElem_cons pw]at hr
    generalize p[k]=x at hx hr
    generalize q[k]=y at hy hr
    unfold Tb.db at hr
    have hkm:k<m:=by omega
    clear hR pw
    by_cases hz:Tb.iA x y=0
    · rw[if_neg (by simpa using hz)]at hr
      have ud:Hid (Tb.db (p.drop (k+1)) (q.drop (k+1))=R):=hr
      clear hr
      go_wp2_with (go_at_call 247;refine(oV _ _ _).mono ?_;rintro e w' ⟨rfl,rfl⟩)
      go_round
      case rel=>exact⟨k+1,by omega,by go_num,ud.out⟩
      case measure=>simp[intOf];omega
    · rw[if_pos hz]at hr
      have ud:Hid (Tb.iA x y=R):=hr
      have hb:(Tb.iA x y==0)=false:=by simp[hz]
      have yN:(Tb.iA x y != 0)=true:=by simp[hz]
      clear hr hz
      go_wp2_with (go_at_call 247;refine(oV _ _ _).mono ?_;rintro e w' ⟨rfl,rfl⟩)
      go_ret
      exact⟨by rw[ud.out];rfl,rfl⟩
  · have hkp:k=p.length:=by omega
    have e1:p.drop k=[]:=List.drop_eq_nil_of_le (by omega)
    have e2:q.drop k=[]:=List.drop_eq_nil_of_le (by rw[HM.out];omega)
    rw[e1,e2]at hr
    have ud:Hid (0=R):=hr
    clear hr hR hkp e1 e2
    go_wp2_with fail
    go_ret
    exact⟨by rw[←ud.out];rfl,rfl⟩
theorem A9{a b c:ByteArray}{w:World}{g:Nat}(h0:w.cell? ⟨g,0,none⟩=some (.string a))(h1:w.cell? ⟨g,1,none⟩=some (.string b))(h2:w.cell? ⟨g,2,none⟩=some (.string c)):∀(j:Nat) v,[a,b,c][j]?=some v→w.cell? ⟨g,j,none⟩=some (.string v):=by
 intro j v hj
 match j with
 | 0=>simp at hj;rw[←hj];exact h0
 | 1=>simp at hj;rw[←hj];exact h1
 | 2=>simp at hj;rw[←hj];exact h2
 | j+3=>simp at hj
theorem u9(w:World)(a b c x y z:ByteArray):Calls Tryz.prog 132 #[.agg #[.string a,.string b,.string c],.agg #[.string x,.string y,.string z]] w fun e w'=>e=.returned (.int .i64 (Tb.db [a,b,c] [x,y,z]))∧Below w.heap.size w w':=by
 have ql:∀W:World,W.heap=((w.alloc (.cells #[.string a,.string b,.string c] 119)).alloc (.cells #[.string x,.string y,.string z] 119)).heap→
  Calls Tryz.prog 199 #[.slice (some ⟨w.heap.size,0,none⟩) 3 3,.slice (some ⟨w.heap.size+1,0,none⟩) 3 3] W fun e w'=>e=.returned (.int .i64 (Tb.db [a,b,c] [x,y,z]))∧w'=W:=fun W hW=>by
  have h1:W.heap[w.heap.size]?=some (.cells #[.string a,.string b,.string c] 119 (0,0)):=by
   rw[hW,Below.heap_alloc _ _ _ (by simp)]
   exact heap_alloc_new w _
  have h2:W.heap[w.heap.size+1]?=some (.cells #[.string x,.string y,.string z] 119 (0,0)):=by
   rw[hW]
   exact pN w _ _
  exact CG W [a,b,c] [x,y,z] _ _ 3 3 rfl (by simp) (by simp) (by simp)
   (A9 (by rw[cell_of_row _ _ 0 _ _ _ h1];rfl) (by rw[cell_of_row _ _ 1 _ _ _ h1];rfl) (by rw[cell_of_row _ _ 2 _ _ _ h1];rfl))
   (A9 (by rw[cell_of_row _ _ 0 _ _ _ h2];rfl) (by rw[cell_of_row _ _ 1 _ _ _ h2];rfl) (by rw[cell_of_row _ _ 2 _ _ _ h2];rfl))
 generalize Tb.db [a,b,c] [x,y,z]=R at ql ⊢
 go_enter Tryz.func132,Tryz.ntmps132
 go_wp2_with fail
 go_region_with (go_at_call 199;refine(ql _ (by rfl)).mono ?_;rintro e w1 ⟨rfl,rfl⟩)
 all_goals (go_wp2_with fail)
 exact bodyPost_ret (v:=.int .i64 R) (by simp[results,Tryz.results132,go_sem]) rfl ⟨rfl,(((Below.refl _ _).alloc (Nat.le_refl _) _).alloc (by simp) _).drew⟩
end
/- slices.BinarySearchFunc at rows; find. -/
section
open Go.RowKit
open Go.Sort (grow)
def aF(L:List (List ByteArray)):List Value:=L.flatMap fun r=>r.map .string
def p9(L:List (List ByteArray)):Prop:=∀r,r∈L→r.length=3
theorem sC:∀{L:List (List ByteArray)},p9 L→(aF L).length=L.length*3
 | [],_=>rfl
 | r::L,h=>by
  have h1:=sC (L:=L) (fun x hx=>h x (by simp[hx]))
  have h2:=h r (by simp)
  unfold aF at h1 ⊢
  simp only[List.flatMap_cons,List.length_append,List.length_map,List.length_cons,h1,h2]
  omega
theorem lT:∀{L:List (List ByteArray)} (k:Nat),p9 L→(aF L).take (k*3)=aF (L.take k)
 | [],k,_=>by simp[aF]
 | r::L,0,_=>by simp[aF]
 | r::L,k+1,h=>by
  have h1:=lT (L:=L) k (fun x hx=>h x (by simp[hx]))
  have h2:=h r (by simp)
  unfold aF at h1 ⊢
  rw[List.flatMap_cons,List.take_succ_cons,List.flatMap_cons,←h1,List.take_append,List.length_map,h2]
  rw[List.take_of_length_le (by rw[List.length_map,h2];omega)]
  congr 2
  omega
theorem jk:∀{L:List (List ByteArray)} (k:Nat),p9 L→(aF L).drop (k*3)=aF (L.drop k)
 | [],k,_=>by simp[aF]
 | r::L,0,_=>by simp[aF]
 | r::L,k+1,h=>by
  have h1:=jk (L:=L) k (fun x hx=>h x (by simp[hx]))
  have h2:=h r (by simp)
  unfold aF at h1 ⊢
  rw[List.flatMap_cons,List.drop_succ_cons,←h1,List.drop_append,List.length_map,h2]
  rw[List.drop_of_length_le (by rw[List.length_map,h2];omega),List.nil_append]
  congr 1
  omega
theorem sr(a b:List (List ByteArray)):aF (a++b)=aF a++aF b:=by simp[aF]
theorem nA(L:List (List ByteArray)):∀u∈aF L,u.oneCell'=true:=by
 intro u hu
 obtain⟨r,_,hu⟩:=List.mem_flatMap.1 hu
 obtain⟨x,_,rfl⟩:=List.mem_map.1 hu
 rfl
theorem x8{r:List ByteArray}(h:r.length=3):∃a b c,r=[a,b,c]:=by
 match r with
 | [a,b,c]=>exact⟨a,b,c,rfl⟩
 | []=>simp at h
 | [_]=>simp at h
 | [_,_]=>simp at h
 | _::_::_::_::_=>simp at h
theorem ko{L:List (List ByteArray)}(h:p9 L){k:Nat}(hk:k<L.length){a b c:ByteArray}(e:L[k]=[a,b,c]):
 (aF L)[k*3]?=some (.string a)∧(aF L)[k*3+1]?=some (.string b)∧(aF L)[k*3+2]?=some (.string c):=by
 have h1:=jk k h
 rw[List.drop_eq_getElem_cons hk,e]at h1
 have g:∀j,(aF L)[k*3+j]?=(aF ([a,b,c]::L.drop (k+1)))[j]?:=by
  intro j
  rw[←h1,List.getElem?_drop]
 have g0:=g 0
 rw[Nat.add_zero]at g0
 rw[g0,g 1,g 2]
 simp[aF]
structure kI(w:World)(rd:Option Addr)(rc:Nat)(L:List (List ByteArray)):Prop where
 three:p9 L
 own:w.ownsRow 0 119 3 (.slice rd L.length rc) L.length (aF L)
theorem kI.below{w w':World}{rd:Option Addr}{rc:Nat}{L:List (List ByteArray)}(h:kI w rd rc L)(hb:Below w.heap.size w w'):kI w' rd rc L:=⟨h.three,af h.own hb⟩
theorem kI.at{w:World}{rd:Option Addr}{rc:Nat}{L:List (List ByteArray)}(h:kI w rd rc L){k:Nat}(hk:k<L.length):
 ∃g a b c,rd=some ⟨g,0,none⟩∧g<w.heap.size∧L.length≤rc∧L[k]=[a,b,c]∧w.cell? ⟨g,k*3,none⟩=some (.string a)∧w.cell? ⟨g,k*3+1,none⟩=some (.string b)∧w.cell? ⟨g,k*3+2,none⟩=some (.string c):=by
 obtain⟨g,rfl,hg,hc,bA⟩:=ax h.own (by omega)
 obtain⟨a,b,c,e⟩:=x8 (h.three _ (List.getElem_mem hk))
 obtain⟨c0,c1,c2⟩:=ko h.three hk e
 exact⟨g,a,b,c,rfl,hg,hc,e,bA _ _ c0,bA _ _ c1,bA _ _ c2⟩
theorem Vs{L:List (List ByteArray)}{r:List ByteArray}{i:Nat}(hi:i≤L.length)(h1:∀k (hk:k<L.length),k<i→Tb.db L[k] r<0)(h2:∀k (hk:k<L.length),i≤k→¬Tb.db L[k] r<0):Tb.pos L r=i:=by
 unfold Tb.pos
 have e:L=L.take i++L.drop i:=(List.take_append_drop i L).symm
 rw[e,List.countP_append]
 have a1:(L.take i).countP (fun x=>decide (Tb.db x r<0))=i:=by
  rw[List.countP_eq_length.2,List.length_take,Nat.min_eq_left hi]
  intro x hx
  obtain⟨k,hk,rfl⟩:=List.getElem_of_mem hx
  rw[List.length_take]at hk
  rw[List.getElem_take]
  simpa using h1 k (by omega) (by omega)
 have a2:(L.drop i).countP (fun x=>decide (Tb.db x r<0))=0:=by
  rw[List.countP_eq_zero]
  intro x hx
  obtain⟨k,hk,rfl⟩:=List.getElem_of_mem hx
  rw[List.length_drop]at hk
  rw[List.getElem_drop]
  simpa using h2 (i+k) (by omega) (by omega)
 rw[a1,a2,Nat.add_zero]
theorem DG(w:World)(rd:Option Addr)(rc:Nat)(L:List (List ByteArray))(a b c:ByteArray)(h:kI w rd rc L)(hL:L.length≤1000000)(ho:Tb.Ord L):
 Calls Tryz.prog 131 #[.slice rd L.length rc,.agg #[.string a,.string b,.string c],.func (Fn.func 132) #[] #[]] w fun e w'=>
  e=.returned (.tuple #[.int .i64 (Tb.pos L [a,b,c]:Nat),.bool (Tb.lO L [a,b,c])])∧Below w.heap.size w w':=by
 obtain⟨w0,di⟩:∃w0,w0=w.alloc (.cells #[.string a,.string b,.string c] 119):=⟨_,rfl⟩
 have bK:Below w.heap.size w w0:=by rw[di];exact(Below.refl _ _).alloc (Nat.le_refl _) _
 have lY:w0.heap[w.heap.size]?=some (.cells #[.string a,.string b,.string c] 119 (0,0)):=by rw[di];exact heap_alloc_new w _
 have JA:w0.heap.size=w.heap.size+1:=by rw[di];simp
 have h0:kI w0 rd rc L:=h.below bK
 have ql:=fun (W:World) (x y z:ByteArray)=>u9 W x y z a b c
 generalize hr:[a,b,c]=r at ql
 have HR:Hid ([a,b,c]=r):=hr
 have HO:Hid (Tb.Ord L):=ho
 clear hr ho h
 go_enter Tryz.func131,Tryz.ntmps131
 go_wp2_with fail
 rw[←di]
 clear di
 go_loopw [9,10] (fun iv jv wr=>∃i j:Nat,i≤j∧j≤L.length∧iv=.int .i64 i∧jv=.int .i64 j∧Below w0.heap.size w0 wr∧(∀k (hk:k<L.length),k<i→Tb.db L[k] r<0)∧(∀k (hk:k<L.length),j≤k→¬Tb.db L[k] r<0)) (fun iv jv _=>(intOf jv).toNat-(intOf iv).toNat)
 case atStart=>exact⟨0,L.length,Nat.zero_le _,Nat.le_refl _,rfl,rfl,Below.refl _ _,fun k _ hk=>by omega,fun k hk BZ=>by omega⟩
 case round=>
  obtain⟨i,j,YH,hj,rfl,rfl,aR,hlo,hhi⟩:=hrel
  have WA:Hid (∀k (hk:k<L.length),k<i→Tb.db L[k] r<0):=hlo
  have HHI:Hid (∀k (hk:k<L.length),j≤k→¬Tb.db L[k] r<0):=hhi
  clear hlo hhi
  by_cases aC:i<j
  · obtain⟨m,hm⟩:∃m:Nat,m=(i+j)/2:=⟨_,rfl⟩
    have WC:i≤m:=by omega
    have M9:m<j:=by omega
    have HM:Hid (m=(i+j)/2):=hm
    have hmL:m<L.length:=by omega
    obtain⟨g,x,y,z,rfl,hg,hc,hx,d0,d1,d2⟩:=(h0.below aR).at hmL
    have HX:Hid (L[m]=[x,y,z]):=hx
    have ht:=aR.block w.heap.size (by omega)
    rw[lY]at ht
    have t0:wr.cell? ⟨w.heap.size,0,none⟩=some (.string a):=by rw[cell_of_row _ _ 0 _ _ _ ht];rfl
    have t1:wr.cell? ⟨w.heap.size,1,none⟩=some (.string b):=by rw[cell_of_row _ _ 1 _ _ _ ht];rfl
    have t2:wr.cell? ⟨w.heap.size,2,none⟩=some (.string c):=by rw[cell_of_row _ _ 2 _ _ _ ht];rfl
    have PZ:w.heap.size<wr.heap.size:=by have:=aR.size;omega
    have w1:IntKind.i64.wrap ((i:Int)+(j:Int))=(i:Int)+(j:Int):=by rw[IntKind.wrap_i64];omega
    clear hx hm ht
    have hmI:((i:Int)+(j:Int))/2=(m:Int):=by have:=HM.out;omega
    go_upto_region 5 with fail
    go_cut [31]from 15 to 34 (fun cv wx=>cv=.bool (decide (Tb.db [x,y,z] r<0))∧Below w0.heap.size w0 wx)
    case first=>
     go_region_with (go_at_call 132;refine(ql _ _ _ _).mono ?_;rintro e w5 ⟨rfl,ls⟩)
     all_goals (go_wp2_with fail;go_meet;exact⟨by rfl,aR.drew.trans (ls.mono (by exact aR.size))⟩)
    case rest=>
     obtain⟨rfl,vN⟩:=hcut
     have key:Hid ((Tb.db [x,y,z] r<0)=(Tb.db L[m] r<0)):=by rw[HX.out];rfl
     cases hq:decide (Tb.db [x,y,z] r<0)with
     | true=>
      have Im:Hid (Tb.db L[m] r<0):=by have:=of_decide_eq_true hq;rw[HX.out];exact this
      clear hq key aR d0 d1 d2 t0 t1 t2
      go_wp2_with fail
      go_roundw
      case rel=>
       refine⟨m+1,j,by omega,hj,by go_num,rfl,vN,fun k hk BZ=> ?_,HHI.out⟩
       exact Tb.Fm HO.out (by omega) hmL Im.out
      case measure=>simp[intOf];omega
     | false=>
      have Im:Hid (¬Tb.db L[m] r<0):=by have:=of_decide_eq_false hq;rw[HX.out];exact this
      clear hq key aR d0 d1 d2 t0 t1 t2
      go_wp2_with fail
      go_roundw
      case rel=>
       refine⟨i,m,by omega,by omega,rfl,rfl,vN,WA.out,fun k hk BZ uw=> ?_⟩
       exact Im.out (Tb.Fm HO.out BZ hk uw)
      case measure=>simp[intOf];omega
  · have Xi:i=j:=by omega
    have uK:Hid (Tb.pos L r=i):=Vs (by omega) WA.out (fun k hk BZ=>HHI.out k hk (by omega))
    by_cases dQ:i<L.length
    · obtain⟨g,x,y,z,rfl,hg,hc,hx,d0,d1,d2⟩:=(h0.below aR).at dQ
      have HX:Hid (L[i]=[x,y,z]):=hx
      have ht:=aR.block w.heap.size (by omega)
      rw[lY]at ht
      have t0:wr.cell? ⟨w.heap.size,0,none⟩=some (.string a):=by rw[cell_of_row _ _ 0 _ _ _ ht];rfl
      have t1:wr.cell? ⟨w.heap.size,1,none⟩=some (.string b):=by rw[cell_of_row _ _ 1 _ _ _ ht];rfl
      have t2:wr.cell? ⟨w.heap.size,2,none⟩=some (.string c):=by rw[cell_of_row _ _ 2 _ _ _ ht];rfl
      have PZ:w.heap.size<wr.heap.size:=by have:=aR.size;omega
      have C5:Hid (Tb.lO L r=decide (Tb.db [x,y,z] r=0)):=by
       have h1:=Tb.fQ HO.out r
       rw[uK.out,List.getElem?_eq_getElem dQ,HX.out]at h1
       rw[Bool.eq_iff_iff,Tb.dM,decide_eq_true_eq,Tb.sW,←h1,Option.some.injEq]
       exact Iff.rfl
      have HJ:Hid (i=j):=Xi
      clear hx ht Xi
      have k0:=cell_regrown d0
      have k1:=cell_regrown d1
      have k2:=cell_regrown d2
      have l0:=cell_regrown t0
      have l1:=cell_regrown t1
      have l2:=cell_regrown t2
      have cC:∀d os,Calls Tryz.prog 132 #[.agg #[.string x,.string y,.string z],.agg #[.string a,.string b,.string c]] (grow (redrawn wr d) os) fun e Y6=>e=.returned (.int .i64 (Tb.db [x,y,z] r))∧∃p:Regrown,Y6=grow (redrawn wr p.d) p.os:=fun d os=>Calls.regrown_of (ql _ _ _ _)
      generalize Tb.db [x,y,z] r=q at C5 cC
      have od:Hid ((Value.tuple #[.int .i64 (Tb.pos L r:Nat),.bool (Tb.lO L r)])=.tuple #[.int .i64 (i:Nat),.bool (q==0)]):=by
       have e1:(q==0)=decide (q=0):=by rw[Bool.eq_iff_iff];simp
       rw[uK.out,C5.out,←e1]
       rfl
      clear ql d0 d1 d2 t0 t1 t2
      go_upto_region 8 with fail
      refine wp_region_quiet_below (by kernel_rfl) (by kernel_rfl) ?_
      repeat (quiet_step (first | exact cC _ _))
      refine wpQuiet_nil ?_
      intro _ RG
      obtain⟨⟨dq,LO⟩,Gb⟩:=RG
      subst Gb
      go_wp2_with fail
      have dU:Below w.heap.size w (grow (redrawn wr dq) LO):=(bK.trans (aR.mono bK.size)).trans ((below_regrown wr dq LO).mono (by have:=bK.size;have:=aR.size;omega))
      go_ret2
      exact⟨by rw[od.out];rfl,dU⟩
    · have C5:Hid (Tb.lO L r=false):=by
       rw[Bool.eq_false_iff]
       intro hc
       have h1:=(Tb.fQ HO.out r).2 (Tb.dM.1 hc)
       rw[uK.out,List.getElem?_eq_none (by omega)]at h1
       cases h1
      have hiL:i=L.length:=by omega
      have HIL:Hid (i=L.length):=hiL
      have od:Hid ((Value.tuple #[.int .i64 (Tb.pos L r:Nat),.bool (Tb.lO L r)])=.tuple #[.int .i64 (i:Nat),.bool false]):=by
       rw[uK.out,C5.out]
       rfl
      clear hiL Xi
      go_upto_region 8 with fail
      go_region
      all_goals (go_wp2_with fail)
      have dU:Below w.heap.size w wr.drew:=(bK.trans (aR.mono bK.size)).drew
      go_ret2
      exact⟨by rw[od.out];rfl,dU⟩
theorem si(w:World)(g:Nat)(rd:Option Addr)(rc:Nat)(L:List (List ByteArray))(a b c:ByteArray)(h:kI w rd rc L)(hL:L.length≤1000000)(ho:Tb.Ord L)(hc:w.cell? ⟨g,2,none⟩=some (.slice rd L.length rc)):
 Calls Tryz.prog 75 #[.pointer (some ⟨g,0,none⟩),.agg #[.string a,.string b,.string c]] w fun e w'=>
  e=.returned (.tuple #[.int .i64 (Tb.pos L [a,b,c]:Nat),.bool (Tb.lO L [a,b,c])])∧Below w.heap.size w w':=by
 obtain⟨w0,di⟩:∃w0,w0=w.alloc (.cells #[.string a,.string b,.string c] 119):=⟨_,rfl⟩
 have bK:Below w.heap.size w w0:=by rw[di];exact(Below.refl _ _).alloc (Nat.le_refl _) _
 have lY:w0.heap[w.heap.size]?=some (.cells #[.string a,.string b,.string c] 119 (0,0)):=by rw[di];exact heap_alloc_new w _
 have t0:w0.cell? ⟨w.heap.size,0,none⟩=some (.string a):=by rw[cell_of_row _ _ 0 _ _ _ lY];rfl
 have t1:w0.cell? ⟨w.heap.size,1,none⟩=some (.string b):=by rw[cell_of_row _ _ 1 _ _ _ lY];rfl
 have t2:w0.cell? ⟨w.heap.size,2,none⟩=some (.string c):=by rw[cell_of_row _ _ 2 _ _ _ lY];rfl
 have NJ:w0.cell? ⟨g,2,none⟩=some (.slice rd L.length rc):=by rw[bK.cell (block_lt_of_cell hc)];exact hc
 have h0:kI w0 rd rc L:=h.below bK
 have k0:=cell_regrown t0
 have k1:=cell_regrown t1
 have k2:=cell_regrown t2
 have k3:=cell_regrown NJ
 have cC:∀d os,Calls Tryz.prog 131 #[.slice rd L.length rc,.agg #[.string a,.string b,.string c],.func (Fn.func 132) #[] #[]] (grow (redrawn w0 d) os) fun e Y6=>e=.returned (.tuple #[.int .i64 (Tb.pos L [a,b,c]:Nat),.bool (Tb.lO L [a,b,c])])∧∃p:Regrown,Y6=grow (redrawn w0 p.d) p.os:=fun d os=>Calls.regrown_of (DG _ rd rc L a b c (h0.below (below_regrown w0 d os)) hL ho)
 generalize Tb.pos L [a,b,c]=ps at cC ⊢
 generalize Tb.lO L [a,b,c]=fb at cC ⊢
 clear h0 h hc t0 t1 t2 lY ho
 go_enter Tryz.func75,Tryz.ntmps75
 go_wp2_with fail
 rw[←di]
 clear di
 refine wp_region_quiet_below (by kernel_rfl) (by kernel_rfl) ?_
 repeat (quiet_step (first | exact cC _ _))
 refine wpQuiet_nil ?_
 intro _ RG
 obtain⟨⟨dq,LO⟩,Gb⟩:=RG
 subst Gb
 go_wp2_with fail
 have dU:Below w.heap.size w (grow (redrawn w0 dq) LO):=bK.trans ((below_regrown w0 dq LO).mono bK.size)
 go_ret2
 exact⟨rfl,dU⟩
end
end Go.Proofs.YtdmicblafmhflaaGreatDoor
