/- slices.Clone at rows; Rows. -/
import Derived.Test.YtdmicblafmhflaaGreatDoorC17
import Derived.Lib.SliceRun
import Derived.Test.YtdmicblafmhflaaGreatDoorC08
import Derived.Test.YtdmicblafmhflaaGreatDoorC16
set_option linter.unusedSimpArgs false
set_option linter.unusedVariables false
set_option maxHeartbeats 2000000
set_option maxRecDepth 100000
namespace Go.Proofs.YtdmicblafmhflaaGreatDoor
section
open Go.RowKit
open Go.Sort (grow)
theorem zT(w:World)(rd:Option Addr)(rc:Nat)(L:List (List ByteArray))(h:kI w rd rc L)(hL:L.length≤999999):
 Calls Tryz.prog 200 #[.slice rd L.length rc] w fun e w'=>∃rd' rc',e=.returned (.slice rd' L.length rc')∧w'.ownsRow w.heap.size 119 3 (.slice rd' L.length rc') L.length (aF L)∧Below w.heap.size w w':=by
 obtain⟨i0,kP,eX,eP,eA⟩:=info_parts Tryz.sk
 have HI:Hid (Tryz.prog.info? 119=some i0):=kP
 have H0:Hid (i0.zero=some (.agg #[.string ByteArray.empty,.string ByteArray.empty,.string ByteArray.empty])):=eX
 have H1:Hid (i0.size=3):=eP
 have H2:Hid (i0.bytes=48):=eA
 clear kP eX eP eA
 have hlen:=sC h.three
 have DI:=nA L
 have Ig:∀(w:World) (a:Option Addr) (n c:Nat),(binOp .eql 113 (.slice a n c) (.slice none 0 0)).run Tryz.prog w=.ok (.bool a.isNone) w:=fun w a n c=>Lib.run_eql_slice_nil w 113 119 a n c 0 0 Tryz.underlying113
 rcases h.own.2 with⟨e1,e2⟩ | ⟨g,cap,cur,e1,_,hg,hc,hm,_⟩
 · simp only[Value.slice.injEq]at e1
   obtain⟨rfl,e3,rfl⟩:=e1
   have hL0:L=[]:=List.eq_nil_of_length_eq_zero e2
   subst hL0
   clear h hlen DI
   go_enter Tryz.func200,Tryz.ntmps200
   go_wp2_with fail
   go_ret
   exact⟨none,0,rfl,World.ownsRow_nil _ _ _ _,Below.refl _ _⟩
 · simp only[Value.slice.injEq]at e1
   obtain⟨rfl,_,rfl⟩:=e1
   have bA:=World.ownsRow.cells h.own (g:=g) rfl
   have mh:=lt_of_heap hg
   have ew:Hid (∀(j:Nat) u,(aF L)[j]?=some u→(w.alloc (.cells #[] 119)).cell? ((⟨g,0,none⟩:Addr).add j)=some u):=fun j u hj=>World.ownsRow.cells (h.own.alloc _) (g:=g) rfl j u hj
   have aj:(w.alloc (.cells #[] 119)).ownsRow w.heap.size 119 3 (.slice (some ⟨w.heap.size,0,none⟩) 0 0) 0 []:=World.ownsRow_made w #[] 0 (Nat.le_refl _) (by unfold maxLen;omega) rfl
   clear h hg bA
   go_enter Tryz.func200,Tryz.ntmps200
   go_wp2_with (at_builtin;refine wpList_append_own _ rfl (.tmp 5) (.tmp 6) 113 rfl w.heap.size 119 i0 _ 3 48 Tryz.underlying113 HI.out H0.out H1.out H2.out rfl (by decide) _ _ _ rfl aj ⟨g,0,none⟩ L.length rc (aF L) rfl hlen ew.out DI (by unfold maxLen;omega) (by omega) (by simp) ?_;intro v2 w2 aO ch _)
   go_ret
   rw[Nat.zero_add,List.nil_append]at aO
   obtain⟨rd',rc',rfl⟩:=ah aO
   refine⟨rd',rc',rfl,aO, ?_⟩
   exact((Below.refl _ _).alloc (Nat.le_refl _) _).grown ch (by simp) (fun q hq=>by have Im:some w.heap.size=some q:=hq;simp only[Option.some.injEq]at Im;omega)
theorem wM(w:World)(g:Nat)(T:TypeId)(nm:ByteArray)(pl:Nat)(rd:Option Addr)(rc:Nat)(L:List (List ByteArray))(rest:List Value)(h:cl w g T nm pl rd rc L rest)(hL:L.length≤999999):
 Calls Tryz.prog 133 #[.pointer (some ⟨g,0,none⟩)] w fun e w'=>∃rd' rc',e=.returned (.slice rd' L.length rc')∧w'.ownsRow w.heap.size 119 3 (.slice rd' L.length rc') L.length (aF L)∧Below w.heap.size w w':=by
 have c2:=h.lB.1
 have hg:=lt_of_heap h.da
 have vE:Hid (Calls Tryz.prog 200 #[.slice rd L.length rc] w fun e w'=>∃rd' rc',e=.returned (.slice rd' L.length rc')∧w'.ownsRow w.heap.size 119 3 (.slice rd' L.length rc') L.length (aF L)∧Below w.heap.size w w'):=zT w rd rc L h.rows hL
 clear h
 go_enter Tryz.func133,Tryz.ntmps133
 go_wp2_with (go_at_call 200;refine vE.out.mono ?_;rintro e w1 ⟨rd',rc',rfl,ho,hb⟩)
 go_ret
 exact⟨rd',rc',rfl,ho,hb⟩
end
/- The join of a rule's body with the facts found, as a plain function; it makes just the tuples of E0. No program here. -/
namespace En
def rU(P:List bE)(z:bE)(turn i:Nat):List bE:=if i=turn then [z]else if i<turn then P else P++[z]
def jn(P:List bE)(z:bE)(turn:Nat)(h:Ax.Atom):Nat→List Ax.Atom→Bind→List bE
 | _,[],b=>[dj (val b) h]
 | i,a::l,b=>(rU P z turn i).flatMap fun f=>match dd a f b with
  | some b'=>jn P z turn h (i+1) l b'
  | none=>[]
def bt(P:List bE)(z:bE)(r:Ax.aP):List bE:=(List.range r.body.length).flatMap fun turn=>jn P z turn r.head 0 r.body []
theorem Cf{α β:Type}(f:α→Option β):∀l:List α,l.filterMap f=l.flatMap fun x=>(f x).toList
 | []=>rfl
 | a::l=>by
  rw[List.filterMap_cons,List.flatMap_cons,Cf f l]
  cases f a<;>rfl
theorem JL(P:List bE)(z:bE)(r:Ax.aP)(h2:r.body.length≤2):bt P z r=(n9 (cp r).k P z).filterMap (cp r).inst:=by
 obtain⟨hd,body⟩:=r
 match body,h2 with
 | [],_=>rfl
 | [a],_=>
  simp only[bt,List.length_singleton,cp,n9,Cf]
  show(List.range 1).flatMap _=_
  have e:List.range 1=[0]:=rfl
  rw[e]
  simp only[List.flatMap_cons,List.flatMap_nil,List.append_nil,jn,rU,if_true,gM,ff]
  cases dd a z []<;>rfl
 | [a,c],_=>
  simp only[bt,cp,n9,Cf]
  show(List.range 2).flatMap _=((P++[z]).map (fun x=>[z,x])++P.map fun y=>[y,z]).flatMap _
  have e:List.range 2=[0,1]:=rfl
  rw[e,List.flatMap_append]
  simp only[List.flatMap_cons,List.flatMap_nil,List.append_nil,List.flatMap_map]
  congr 1
  · simp only[jn,rU,if_true,List.flatMap_cons,List.flatMap_nil,List.append_nil,gM,ff]
    cases dd a z []with
    | none=>simp
    | some b=>
     simp only[jn,rU]
     have h1:¬(0+1=0):=by omega
     have h2:¬(0+1<0):=by omega
     simp only[if_neg h1,if_neg h2]
     refine congrArg (fun g=>List.flatMap g (P++[z])) (funext fun x=> ?_)
     cases dd c x b<;>simp[jn,ff]
  · simp only[jn,rU]
    have h1:¬(0=1):=by omega
    have h2:0<1:=by omega
    simp only[if_neg h1,if_pos h2,gM,ff]
    refine congrArg (fun g=>List.flatMap g P) (funext fun x=> ?_)
    cases dd a x []with
    | none=>simp
    | some b=>
     simp only[jn,rU,Nat.zero_add,if_true,List.flatMap_cons,List.flatMap_nil,List.append_nil]
     cases dd c z b<;>simp[jn,ff]
theorem sF(P:List bE)(z:bE):∀(rs:List Ax.aP),(∀r,r∈rs→r.body.length≤2)→rs.flatMap (bt P z)=mm (rs.map cp) P z
 | [],_=>rfl
 | r::rs,h=>by
  rw[List.flatMap_cons,JL P z r (h r (by simp)),sF P z rs (fun q hq=>h q (by simp[hq]))]
  rfl
end En
/- Package follow: bindings as they lie; name, set. -/
section
open Go.RowKit
open Go.Sort (grow)
def cG(n:Nat)(X Y:Nat→ByteArray):Array Value:=#[.int .i64 n,.string (X 0),.string (Y 0),.string (X 1),.string (Y 1),.string (X 2),.string (Y 2),.string (X 3),.string (Y 3),.string (X 4),.string (Y 4),.string (X 5),.string (Y 5)]
structure BM(b:En.Bind)(n:Nat)(X Y:Nat→ByteArray):Prop where
 len:b.length=n
 six:n≤6
 at_:∀i (h:i<b.length),b[i]=(X i,Y i)
theorem CP{n:Nat}{X Y:Nat→ByteArray}{i:Nat}(h:i<6):(cG n X Y)[1+i*2]?=some (.string (X i))∧(cG n X Y)[2+i*2]?=some (.string (Y i)):=by
 have:i=0∨i=1∨i=2∨i=3∨i=4∨i=5:=by omega
 rcases this with rfl | rfl | rfl | rfl | rfl | rfl<;>exact⟨rfl,rfl⟩
def lk(X:Nat→ByteArray)(n:Nat)(x:ByteArray):Nat→ByteArray:=fun i=>if i=n then x else X i
theorem NT{n:Nat}(X Y:Nat→ByteArray)(x y:ByteArray)(h:n<6):(((cG n X Y).setIfInBounds (1+n*2) (.string x)).setIfInBounds (2+n*2) (.string y)).setIfInBounds 0 (.int .i64 ((n:Int)+1))=cG (n+1) (lk X n x) (lk Y n y):=by
 have:n=0∨n=1∨n=2∨n=3∨n=4∨n=5:=by omega
 rcases this with rfl | rfl | rfl | rfl | rfl | rfl<;>rfl
theorem BM.snoc{b:En.Bind}{n:Nat}{X Y:Nat→ByteArray}(h:BM b n X Y)(hn:n<6)(x y:ByteArray):BM (b++[(x,y)]) (n+1) (lk X n x) (lk Y n y) where
 len:=by rw[List.length_append,h.len];rfl
 six:=by omega
 at_:=by
  intro i hi
  rw[List.length_append,List.length_singleton]at hi
  by_cases e:i<b.length
  · rw[List.getElem_append_left e,h.at_ i e]
    have:i≠n:=by have:=h.len;omega
    simp[lk,this]
  · have e2:i=n:=by have:=h.len;omega
    subst e2
    rw[List.getElem_append_right (by omega)]
    simp[lk]
theorem IG:BM [] 0 (fun _=>⟨#[]⟩) (fun _=>⟨#[]⟩):=⟨rfl,by omega,fun i h=>by simp at h⟩
theorem GJ{b:En.Bind}{n:Nat}{X Y:Nat→ByteArray}(h:BM b n X Y){x:ByteArray}:∀k,k≤n→(∀i,i<k→X i≠x)→En.val b x=En.val (b.drop k) x
 | 0,_,_=>by rw[List.drop_zero]
 | k+1,hk,hn=>by
  have hl:=h.len
  rw[GJ h k (by omega) (fun i hi=>hn i (by omega)),List.drop_eq_getElem_cons (by omega),h.at_ k (by omega),En.val,if_neg (hn k (by omega))]
theorem E8(w:World)(g n:Nat)(X Y:Nat→ByteArray)(b:En.Bind)(hb:BM b n X Y)(t:Ax.Term)(hk:t.kind=0∨t.kind=1)(hg:w.heap[g]?=some (.cells (cG n X Y) 369 (0,0))):
 Calls Tryz.prog 286 #[.pointer (some ⟨g,0,none⟩),.agg #[.int .i64 t.kind,.string t.text]] w fun e w'=>e=.returned (.string (En.dD (En.val b) t))∧Below w.heap.size w w':=by
 obtain⟨kd,tx⟩:=t
 have hn6:=hb.six
 have mh:=lt_of_heap hg
 have c0:w.cell? ⟨g,0,none⟩=some (.int .i64 n):=by rw[cell_of_row _ _ 0 _ _ _ hg];rfl
 have KE:¬(6:Int)<(n:Int):=by omega
 rcases hk with hk | hk<;>simp only at hk<;>subst hk
 · have hv:En.dD (En.val b) ⟨0,tx⟩=tx:=by simp[En.dD]
   rw[hv]
   clear hb hv
   go_enter Tryz.func286,Tryz.ntmps286
   go_wp2_with fail
   go_ret
   exact⟨rfl,(Below.refl _ _).alloc (Nat.le_refl _) _⟩
 · have hv:En.dD (En.val b) ⟨1,tx⟩=En.val b tx:=by simp[En.dD]
   rw[hv]
   generalize hR:En.val b tx=R
   obtain⟨w0,di⟩:∃w0,w0=w.alloc (.cells #[.int .i64 1,.string tx] 310):=⟨_,rfl⟩
   have bK:Below w.heap.size w w0:=by rw[di];exact(Below.refl _ _).alloc (Nat.le_refl _) _
   have nG:w0.heap[w.heap.size]?=some (.cells #[.int .i64 1,.string tx] 310 (0,0)):=by rw[di];exact heap_alloc_new w _
   have nD:w0.heap[g]?=some (.cells (cG n X Y) 369 (0,0)):=by rw[bK.block g mh];exact hg
   have JA:w0.heap.size=w.heap.size+1:=by rw[di];simp
   have t0:w0.cell? ⟨w.heap.size,0,none⟩=some (.int .i64 1):=by rw[cell_of_row _ _ 0 _ _ _ nG];rfl
   have c00:w0.cell? ⟨g,0,none⟩=some (.int .i64 n):=by rw[cell_of_row _ _ 0 _ _ _ nD];rfl
   have c01:(w0.cell? ⟨g,1,none⟩).isSome=true:=by rw[cell_of_row _ _ 1 _ _ _ nD];rfl
   have QF:g<w0.heap.size:=by omega
   have k0:=cell_regrown c00
   clear c0 hv
   go_enter Tryz.func286,Tryz.ntmps286
   go_wp2_with fail
   rw[←di]
   clear di
   refine wp_region_quiet_below (by kernel_rfl) (by kernel_rfl) ?_
   repeat (quiet_step (fail))
   refine wpQuiet_nil ?_
   intro _ RG
   obtain⟨⟨dq,LO⟩,Gb⟩:=RG
   subst Gb
   have S8:=below_regrown w0 dq LO
   generalize grow (redrawn w0 dq) LO=wq at S8 ⊢
   clear k0 c00 c01 t0
   go_wp2_with fail
   go_loopw [21] (fun i wr=>∃k:Nat,k≤n∧i=.int .i64 k∧Below w0.heap.size w0 wr∧∀j,j<k→X j≠tx) (fun i _=>n-(intOf i).toNat)
   case atStart=>exact⟨0,Nat.zero_le _,rfl,S8,fun j hj=>by omega⟩
   case round=>
    obtain⟨k,hkn,rfl,aR,jO⟩:=hrel
    have C3:Hid (∀j,j<k→X j≠tx):=jO
    clear jO
    have kW:=aR.size
    by_cases aC:k<n
    · have AG:wr.heap[g]?=some (.cells (cG n X Y) 369 (0,0)):=by rw[aR.block g QF];exact nD
      have hbr:wr.heap[w.heap.size]?=some (.cells #[.int .i64 1,.string tx] 310 (0,0)):=by rw[aR.block _ (by omega)];exact nG
      have d0:wr.cell? ⟨g,1+k*2,none⟩=some (.string (X k)):=by rw[cell_of_row _ _ _ _ _ _ AG];exact(CP (by omega)).1
      have d1:wr.cell? ⟨g,1+k*2+1,none⟩=some (.string (Y k)):=by rw[cell_of_row _ _ _ _ _ _ AG,show 1+k*2+1=2+k*2 by omega];exact(CP (by omega)).2
      have e1:wr.cell? ⟨w.heap.size,1,none⟩=some (.string tx):=by rw[cell_of_row _ _ 1 _ _ _ hbr];rfl
      have Ir:w.heap.size<wr.heap.size:=by omega
      have ab2:g<wr.heap.size:=by omega
      clear AG hbr
      by_cases hx:X k=tx
      · have zx:((X k).toList==tx.toList)=true:=by rw[eF];simp[hx]
        have HF:Hid (R=Y k):=by
         rw[←hR,GJ hb k (by omega) C3.out,List.drop_eq_getElem_cons (by have:=hb.len;omega),hb.at_ k (by have:=hb.len;omega),En.val,if_pos hx]
         rfl
        clear hR hx
        go_wp2_with fail
        go_ret
        refine⟨by rw[HF.out];rfl,bK.trans (Below.mono ?_ bK.size)⟩
        exact aR.alloc kW _
      · have zx:((X k).toList==tx.toList)=false:=by rw[eF];simp[hx]
        have HX:Hid (X k≠tx):=hx
        clear hx
        go_wp2_with fail
        go_roundw
        case rel=>
         refine⟨k+1,by omega,by go_num, ?_,fun j hj=> ?_⟩
         · exact aR.alloc kW _
         · by_cases e:j=k
           · subst e;exact HX.out
           · exact C3.out j (by omega)
        case measure=>simp[intOf];omega
    · have HF:Hid (R=⟨#[]⟩):=by
       rw[←hR,GJ hb k (by omega) C3.out,List.drop_of_length_le (by have:=hb.len;omega)]
       rfl
      clear hR
      go_wp2_with fail
      go_ret
      exact⟨by rw[HF.out];rfl,bK.trans (aR.mono bK.size)⟩
theorem Re{w:World}{g:Nat}{cur:Array Value}{T:TypeId}(h:w.heap[g]?=some (.cells cur T (0,0)))(i j k:Nat)(x y z:Value):
 (((w.setCell ⟨g,i,none⟩ x).setCell ⟨g,j,none⟩ y).setCell ⟨g,k,none⟩ z).heap[g]?=some (.cells (((cur.setIfInBounds i x).setIfInBounds j y).setIfInBounds k z) T (0,0))∧Kb [g] w (((w.setCell ⟨g,i,none⟩ x).setCell ⟨g,j,none⟩ y).setCell ⟨g,k,none⟩ z):=by
 have h1:=an w h i x
 have h2:=an _ h1 j y
 have h3:=an _ h2 k z
 exact⟨h3,((Kb.setCell w ⟨g,i,none⟩ x).trans (Kb.setCell _ ⟨g,j,none⟩ y)).trans (Kb.setCell _ ⟨g,k,none⟩ z)⟩
theorem Kb.XJ{S:List Nat}{w w':World}(h:Kb S w.drew w'):Kb S w w':=⟨h.os,h.tape,h.output,h.size,h.block⟩
theorem RU(w:World)(g n:Nat)(X Y:Nat→ByteArray)(x y:ByteArray)(hn:n<6)(hg:w.heap[g]?=some (.cells (cG n X Y) 369 (0,0))):
 Calls Tryz.prog 287 #[.pointer (some ⟨g,0,none⟩),.string x,.string y] w fun e w'=>e=.returned (.tuple #[])∧w'.heap[g]?=some (.cells (cG (n+1) (lk X n x) (lk Y n y)) 369 (0,0))∧Kb [g] w w':=by
 have mh:=lt_of_heap hg
 have c0:w.cell? ⟨g,0,none⟩=some (.int .i64 n):=by rw[cell_of_row _ _ 0 _ _ _ hg];rfl
 have cx:w.cell? ⟨g,1+n*2,none⟩=some (.string (X n)):=by rw[cell_of_row _ _ _ _ _ _ hg];exact(CP hn).1
 have cy:w.cell? ⟨g,1+n*2+1,none⟩=some (.string (Y n)):=by rw[cell_of_row _ _ _ _ _ _ hg,show 1+n*2+1=2+n*2 by omega];exact(CP hn).2
 have fz:∀o,w.frozen? ⟨g,o,none⟩=false:=fun o=>by simp[World.frozen?,hg]
 have vU:n≤6:=by omega
 have key:=Re hg (1+n*2) (2+n*2) 0 (.string x) (.string y) (.int .i64 ((n:Int)+1))
 rw[NT X Y x y hn,show 2+n*2=1+n*2+1 by omega]at key
 go_enter Tryz.func287,Tryz.ntmps287
 go_wp2_with fail
 go_region
 all_goals (go_wp2_with fail)
 go_end0
 exact⟨rfl,key.1,key.2.drew⟩
end
end Go.Proofs.YtdmicblafmhflaaGreatDoor
