import Derived.Test.YtkiamgcpcneggaaGreatPackU
set_option linter.all false
set_option maxRecDepth 100000
set_option maxHeartbeats 12800000
namespace Go.Proofs.YtkiamgcpcneggaaGreat
section
namespace Daw
open Tri

def om (s:St):LIn:=(if s.final=true then 1 else 0)::s.arcs.flatMap fun a=>[a.1,a.2]
theorem XK:∀{l l':List (Int × Int)},(l.flatMap fun a=>[a.1,a.2])=(l'.flatMap fun a=>[a.1,a.2])->l=l'
 | [],[],_=>rfl
 | [],y::l',h=>by simp at h
 | x::l,[],h=>by simp at h
 | (a,b)::l,(c,d)::l',h=>by
   simp only [List.flatMap_cons,List.cons_append,List.nil_append,List.cons.injEq] at h;obtain ⟨rfl,rfl,h⟩:=h;rw [XK h]
theorem ake {s t:St} (h:om s=om t):s=t:=by
 unfold om at h;rw [List.cons.injEq] at h;obtain ⟨h1,h2⟩:=h;have h3:=XK h2
 cases s with|mk f l=>cases t with|mk f' l' =>
 simp only at h1 h3;subst h3;cases f<;>cases f'<;>simp at h1 ⊢
def kG (s:St):Prop:=∀a∈s.arcs,Utf.good a.1=true/\0<=a.2/\a.2<=6001
theorem XM {n:Int} (h0:0<=n) (h1:n<=6001):Utf.good n=true:=by rw [Utf.lX];omega
theorem DZ {s:St} (h:kG s):Utf.bf (om s)=true:=by
 unfold om Utf.bf;rw [List.all_cons,Bool.and_eq_true];refine ⟨by split<;>decide,?_⟩
 rw [List.all_eq_true];intro x hx;obtain ⟨a,ha,hxa⟩:=List.mem_flatMap.1 hx;obtain ⟨h1,h2,h3⟩:=h a ha;rcases List.mem_cons.1 hxa with rfl|hxa
 ·exact h1
 ·rw [msg hxa];exact XM h2 h3
theorem XN (s:St):(om s).length=1+2*s.arcs.length:=by
 unfold om
 have:∀l:List (Int × Int),(l.flatMap fun a=>[a.1,a.2]).length=2*l.length:=by
  intro l
  induction l with
  | nil=>rfl
  | cons x l ih=>rw [List.flatMap_cons,List.length_append,ih];simp;omega
 rw [List.length_cons,this];omega

theorem akf {n:Int} (h:Utf.good n=true):Utf8.encode n=strOfNums (Utf.enc n):=by
 rw [Utf.lX] at h;have hv:Utf8.valid n=true:=by simp [Utf8.valid];omega
 obtain ⟨k,rfl⟩:∃k:Nat,n=(k:Int):=⟨n.toNat,by omega⟩;unfold Utf8.encode Utf.enc;rw [hv];simp only [if_true,Int.toNat_natCast];by_cases h1:k<128
 ·rw [if_pos h1,if_pos omg];rfl
 ·rw [if_neg h1,if_neg (show ¬(k:Int)<128 by omega)];by_cases h2:k<2048
  ·rw [if_pos h2,if_pos omg];have e1:(192+(k:Int)/64).toNat=192+k/64:=omg;have e2:(128+(k:Int)%64).toNat=128+k%64:=omg;simp [strOfNums,e1,e2]
  ·rw [if_neg h2,if_neg (show ¬(k:Int)<2048 by omega)];by_cases h3:k<65536
   ·rw [if_pos h3,if_pos omg];have e1:(224+(k:Int)/4096).toNat=224+k/4096:=omg;have e2:(128+(k:Int)/64%64).toNat=128+k/64%64:=omg;have e3:(128+(k:Int)%64).toNat=128+k%64:=omg;simp [strOfNums,e1,e2,e3]
   ·rw [if_neg h3,if_neg (show ¬(k:Int)<65536 by omega)];have e0:(240+(k:Int)/262144).toNat=240+k/262144:=omg;have e1:(128+(k:Int)/4096%64).toNat=128+k/4096%64:=omg;have e2:(128+(k:Int)/64%64).toNat=128+k/64%64:=omg;have e3:(128+(k:Int)%64).toNat=128+k%64:=omg;simp [strOfNums,e0,e1,e2,e3]
theorem nums_app (a b:LIn):strOfNums (a++b)=strOfNums a++strOfNums b:=by
 apply ByteArray.ext;simp [strOfNums]
theorem XO:∀(l:LIn) (s:LIn),Utf.bf l=true->l.foldl (fun r n=>r++Utf8.encode n) (strOfNums s)=strOfNums (s++Utf.put l)
 | [],s,_=>by simp [Utf.put]
 | n::l,s,h=>by
   rw [Utf.Ul,Bool.and_eq_true] at h;rw [List.foldl_cons,akf h.1,<-nums_app,XO l _ h.2,Utf.Ar,List.append_assoc]
theorem akg {l:LIn} (h:Utf.bf l=true):runesBytes l=strOfNums (Utf.put l):=by
 have:=XO l [] h;rw [List.nil_append] at this;exact this
def oq (s:St):ByteArray:=strOfNums (Utf.put (om s))
theorem akh (s:St):(oq s).size<=4+8*s.arcs.length:=by
 have h:=Utf.Dk (om s);rw [XN] at h;have:(oq s).size=(Utf.put (om s)).length:=by simp [oq,strOfNums,ByteArray.size]
 omega
theorem XP:∀{a b:LIn},(∀z∈a,0<=z/\z<=255)->(∀z∈b,0<=z/\z<=255)->a.map (fun n:Int=>UInt8.ofNat n.toNat)=b.map (fun n:Int=>UInt8.ofNat n.toNat)->a=b
 | [],[],_,_,_=>rfl
 | [],y::b,_,_,h=>by simp at h
 | x::a,[],_,_,h=>by simp at h
 | x::a,y::b,ha,hb,h=>by
   simp only [List.map_cons,List.cons.injEq] at h;have hx:=ha x smp;have hy:=hb y smp
   have e:x=y:=by
    have:=congrArg UInt8.toNat h.1;simp at this;omega
   rw [e,XP (fun z hz=>ha z (by simp [hz])) (fun z hz=>hb z (by simp [hz])) h.2]
theorem aki {s t:St} (hs:kG s) (ht:kG t) (h:oq s=oq t):s=t:=by
 refine ake (Utf.adR _ _ (DZ hs) (DZ ht) ?_);refine XP (Utf.Mo _ (DZ hs)) (Utf.Mo _ (DZ ht)) ?_;have:=congrArg (fun s:ByteArray=>s.data.toList) h;simpa [oq,strOfNums] using this
end Daw
end
section
open Go.RowKit Go.Maps Tri Daw

def jM (l:LIn):List Value:=l.map (Value.int .i32)
theorem akj (a b:LIn):jM (a++b)=jM a++jM b:=by simp [jM]
theorem akk:(Tryz.prog.info? 21).map (fun i=>(i.zero,i.size,i.bytes))=some (some (.int .i32 0),1,4):=krf
theorem XQ {n:Int} (h:Utf.good n=true):IntKind.i32.wrap n=n/\(Lit.int .i32 n).wf=true:=by
 rw [Utf.lX] at h;have e:IntKind.i32.wrap n=n:=by simp [IntKind.wrap,IntKind.bits,IntKind.signed];omega
 refine ⟨e,?_⟩
 have h1:IntKind.i32.min<=n:=by have:IntKind.i32.min=-2147483648:=by rfl
                                omega
 have h2:n<=IntKind.i32.max:=by have:IntKind.i32.max=2147483647:=by rfl
                                omega
 simp [Lit.wf,h1,h2]
theorem akl {w:World} {ops:Array Oper} {rest:List Oper} {o:Oper} {act:Act} {Q:Exit->Act->World->Prop} (hgd:o.guard=none) (s x:Operand)
 (ho:o.op=.call { callee:=.builtin .append,args:=#[s,x],argTypes:=#[223,223] }) (base:Nat) (v:Value) (n:Nat) (xs:LIn) (hs:act.eval s=v)
 (hown:w.ownsRow base 21 1 v n (jM xs)) (g:Nat) (p q:Int) (hx:act.eval x=.slice (some ⟨g,0,none⟩) 2 2) (hc0:w.cell? ⟨g,0,none⟩=some (.int .i32 p)) (hc1:w.cell? ⟨g,1,none⟩=some (.int .i32 q))
 (N:Nat) (hN:n+2=N) (h63:N*4<=140737488355328) (hbase:base<=w.heap.size)
 (h:∀g' c' w',w'.ownsRow base 21 1 (.slice (some ⟨g',0,none⟩) N c') N (jM (xs++[p,q]))->Below base w w'->wpList Tryz.prog ops Q rest (act.put o.dst (.slice (some ⟨g',0,none⟩) N c')) w') :
 wpList Tryz.prog ops Q (o::rest) act w:=by
 subst hN;obtain ⟨i0,hi,hz0,hz1,hz2⟩:=info_parts akk;refine wpList_append_own w hgd s x 223 ho base 21 i0 (.int .i32 0) 1 4 Tryz.underlying223 hi hz0 hz1 hz2 rfl (by decide) v n (jM xs) hs hown ⟨g,0,none⟩ 2 2 (jM [p,q]) hx (by simp [jM]) ?_ (by simp [jM,Value.oneCell']) (by unfold maxLen;omega) h63 hbase ?_
 ·intro j u hj
  match j,hj with
  | 0,hj=>simp [jM] at hj;subst hj;exact hc0
  | 1,hj=>simp [jM] at hj;subst hj;exact hc1
  | j+2,hj=>simp [jM] at hj
 ·intro v' w' hown' hgrow _;rcases hown'.2 with ⟨_,h2⟩|⟨g',cap,cur,rfl,_⟩
  ·omega
  ·exact h g' cap w' (by rw [akj];exact hown') ((Below.refl _ _).grown hgrow hbase (fun k hk=>(hown.lt k hk).1))

def XR (f:Bool):Int:=if f=true then 1 else 0
theorem XT (x:Sw) (w:World) (hx:x.Good w) (hn:kG x.st) (hlen:x.n<=2000000) :
 Calls Tryz.prog 149 #[.agg #[.bool x.fin,.slice x.a x.n x.cap]] w fun e w'=>e=.returned (.string (oq x.st))/\Below w.heap.size w w':=by
 obtain ⟨fin,a,n,cap,arcs⟩:=x;simp only [Sw.Good,Sw.st] at *;have hnc:=hx.2.1;have hcm:=hx.2.2.1;unfold maxLen at hcm;have HX:=hdq hx;have HL:Hid (arcs.length=n):=hdq hx.1;have HN:=hdq hn;have HB0:∀o1 o2,Hid (((w.alloc o1).alloc o2).ownsRow w.heap.size 21 1 (.slice (some ⟨w.heap.size+1,0,none⟩) 1 1) 1 (jM [])->True):=fun _ _=>hdq fun _=>trivial;clear HB0;clear hx hn
 have KP:∀(kd:Int) (o:Obj),Hid (((w.alloc o).alloc (.cells #[.int .i32 kd] 21)).ownsRow w.heap.size 21 1 (.slice (some ⟨w.heap.size+1,0,none⟩) 1 1) 1 (jM [kd])/\Below w.heap.size w ((w.alloc o).alloc (.cells #[.int .i32 kd] 21))):=fun kd o=>by
  have h:=World.ownsRow_lit (base:=w.heap.size) (e:=21) (size:=1) (w.alloc o) #[.int .i32 kd] 1 smp (by unfold maxLen;omega) smp;rw [World.size_alloc] at h;exact hdq ⟨h,((Below.refl _ w).alloc lrf o).alloc smp _⟩
 have xu:Hid (∀(g' c':Nat) (w':World),w'.ownsRow w.heap.size 21 1 (.slice (some ⟨g',0,none⟩) (1+2*n) c') (1+2*n) (jM (XR fin::(arcs.take n).flatMap fun a=>[a.1,a.2]))->(convert 223 9 (.slice (some ⟨g',0,none⟩) (1+2*n) c')).run Tryz.prog w'=.ok (.string (oq ⟨fin,arcs⟩)) w'):=hdq fun g' c' w' how=>by
  rw [tol (by rw [HL.out];exact Nat.le_refl _)] at how;have hl:(om ⟨fin,arcs⟩).length=1+2*n:=by rw [XN];simp only;rw [HL.out]
  have h:=run_convert_runes (P:=Tryz.prog) w' 223 9 21 ⟨g',0,none⟩ (1+2*n) c' (om ⟨fin,arcs⟩) omg Tryz.underlying223 Tryz.underlying21 Tryz.underlying9 (fun j hj=>by
   have hc:=how.cellAt j omg;rw [show (⟨g',0,none⟩:Addr).add j=⟨g',j,none⟩ from by simp [Addr.add];omega,hc];show (jM (om ⟨fin,arcs⟩))[j]?=_;rw [jM,List.getElem?_map,gdq,geg hj]
   rfl)
  rw [h,tol omg,akg (DZ HN.out)];rfl
 obtain ⟨kdd,Ro⟩:∃z,XR fin=z:=⟨_,rfl⟩;have HK:=hdq Ro;rw [Ro] at xu;clear Ro;cases fin
 all_goals
  go_enter Tryz.func149,Tryz.ntmps149;go_wp2;go_loopw [4,14] (fun vl ix wr=>∃(k g c:Nat),k<=n/\ix=.int .i64 (k:Int)/\vl=.slice (some ⟨g,0,none⟩) (1+2*k) c/\Hid (wr.ownsRow w.heap.size 21 1 (.slice (some ⟨g,0,none⟩) (1+2*k) c) (1+2*k) (jM (kdd::(arcs.take k).flatMap fun a=>[a.1,a.2])))/\Hid (Below w.heap.size w wr)) (fun _ ix _=>n-(intOf ix).toNat)
  case atStart =>
   first
    | exact ⟨0,_,1,Nat.zero_le _,rfl,rfl,hdq (by rw [<-HK.out];exact (KP 1 _).out.1),hdq (KP 1 _).out.2⟩
    | exact ⟨0,_,1,Nat.zero_le _,rfl,rfl,hdq (by rw [<-HK.out];exact (KP 0 _).out.1),hdq (KP 0 _).out.2⟩
  case round =>
   obtain ⟨k,g,c,hk,rfl,rfl,HOW,ai⟩:=hrel;by_cases hlt:k<n
   ·obtain ⟨b1,o1,s,t,rfl,hb1,hc0,hc1,hws,hwt,hz⟩:=HX.out.one k hlt;have hc0':wr.cell? ⟨b1,o1+k*2,none⟩=some (.int .i64 s):=by rw [ai.out.cell (p:=⟨b1,o1+k*2,none⟩) hb1];exact hc0
    have hc1':wr.cell? ⟨b1,o1+k*2+1,none⟩=some (.int .i64 t):=by rw [ai.out.cell (p:=⟨b1,o1+k*2+1,none⟩) hb1];exact hc1
    have HST:Hid (arcs.take (k+1)=arcs.take k++[(s,t)]):=hdq (sZ (by rw [HL.out];exact hlt) hz);have hmem:(s,t)∈arcs:=by rw [<-hz,gdq,geg (by rw [HL.out];exact hlt),Option.getD_some];exact List.getElem_mem _
    obtain ⟨hg1,hg2,hg3⟩:=HN.out _ hmem;have ath:=(XQ hg1).1;have ati:=(XQ (XM hg2 hg3)).1;have hltz:(k:Int)<(n:Int):=omg;clear hc0 hc1 hz hmem hg1 hg2 hg3 hws hwt hb1;go_wp2_with (at_builtin;go_loud (refine akl rfq (.tmp 18) (.tmp 25) rfq w.heap.size _ (1+2*k) _ rfq ((HOW.out.alloc _).alloc _) (wr.heap.size+1) s t (by go_loud (first|rfl|simp)) (by go_loud (first|rfl|simp)) (by go_loud (first|rfl|simp)) (1+2*(k+1)) omg omg (by have:=ai.out.size;first|(simp;omega)|omega) ?_);intro g' c' w' hown' hb';have HO:=hdq hown';have HB:Hid (Below w.heap.size w w'):=hdq (((ai.out.alloc ai.out.size _).alloc (by have:=ai.out.size;simp;omega) _).trans hb');clear hown' hb');go_roundw
    case rel=>exact ⟨k+1,g',c',by omega,by go_num,rfl,hdq (by have:=HO.out;rw [HST.out];simpa using this),HB⟩
    case measure=>simp [intOf];omega
   ·obtain rfl:k=n:=omg;have hcv:=xu.out g c wr HOW.out;go_wp2;go_ret;exact ⟨rfl,ai.out⟩

theorem Ea:Keyed Tryz.prog 9:=string_keyed Tryz.underlying9
def qX (s:St):Lit:=.string (oq s).data.toList
theorem JF {s:St} (h:s.arcs.length<=2000000):keyOf Tryz.prog 9 (.string (oq s))=some (qX s):=by
 have:=akh s;exact WideMaps.keyOf_string_mk Tryz.underlying9 (by unfold maxLen;omega)
theorem akm {s t:St} (hs:kG s) (ht:kG t) (h:qX s=qX t):s=t:=by
 refine aki hs ht ?_;simp only [qX,Lit.string.injEq] at h;apply ByteArray.ext;exact Array.toList_inj.1 h
structure NameMap (w:World) (mp:Nat) (l:List St):Prop where
 own:∃(M:Nat) (D:DataW Unit),w.ownsMap Tryz.prog 9 (plainElem Tryz.prog 3) mp M D/\Maps.size D=l.length/\M<=l.length /\
  (∀s,kG s->s.arcs.length<=2000000->((∃k,k<l.length/\l.getD k St.no=s/\has D (qX s)=true/\D.atKey (qX s) (.lit (.int .i64 0))=.lit (.int .i64 (k:Int)))\/(s∉l/\has D (qX s)=false)))
theorem NameMap.made (w:World):NameMap (w.alloc (.map #[] 0)) w.heap.size [] :=
 ⟨⟨0,(.map []:DataW Unit),World.ownsMap_made w _ _ _,rfl,Nat.le_refl _,fun _ _ _=>.inr ⟨by simp,rfl⟩⟩⟩
theorem NameMap.kept {w w':World} {mp:Nat} {l:List St} {row:Option Nat} (h:NameMap w mp l) (hg:w.grownBy w' row) (hne:some mp≠row):NameMap w' mp l:=by
 obtain ⟨M,D,h1,h2⟩:=h.own;exact ⟨⟨M,D,h1.kept hg hne,h2⟩⟩
theorem NameMap.lt {w:World} {mp:Nat} {l:List St} (h:NameMap w mp l):mp<w.heap.size:=by
 obtain ⟨M,D,h1,_⟩:=h.own;exact h1.lt
theorem NameMap.block {w w':World} {mp:Nat} {l:List St} (h:NameMap w mp l) (hb:w'.heap[mp]?=w.heap[mp]?):NameMap w' mp l:=by
 obtain ⟨M,D,⟨es,clock,h1,h2⟩,h3⟩:=h.own;exact ⟨⟨M,D,⟨es,clock,hb.trans h1,h2⟩,h3⟩⟩
theorem akn (w:World):(zeroValue 3).run Tryz.prog w=.ok (.int .i64 0) w:=krf
theorem NameMap.look {w:World} {mp:Nat} {l:List St} {s:St} (h:NameMap w mp l) (hs:kG s) (hl:s.arcs.length<=2000000) :
 (∃k,k<l.length/\l.getD k St.no=s/\(Instr.lookup 101 (.map (some mp)) (.string (oq s)) true).run Tryz.prog w=.ok (.tuple #[.int .i64 (k:Int),.bool true]) w) \/
 (s∉l/\∃c:Int,(Instr.lookup 101 (.map (some mp)) (.string (oq s)) true).run Tryz.prog w=.ok (.tuple #[.int .i64 c,.bool false]) w):=by
 obtain ⟨M,D,h1,h2,h3,h4⟩:=h.own;obtain ⟨v,ps,hrun,hv⟩:=h1.look_ok Ea Tryz.underlying101 (akn w) (plainElem_int Tryz.underlying3 (by decide)) (JF hl);obtain ⟨c,rfl,hc,_⟩:=plainElem_int_inv Tryz.underlying3 hv;simp only [Prod.mk.injEq] at hc;rcases h4 s hs hl with ⟨k,hk,he,hh,ha⟩|⟨hm,hh⟩
 ·refine .inl ⟨k,hk,he,?_⟩;rw [hh] at hrun;rw [ha] at hc;have:c=(k:Int):=by simpa using hc.1.symm
  rw [this] at hrun;exact hrun
 ·refine .inr ⟨hm,c,?_⟩;rw [hh] at hrun;exact hrun
theorem NameMap.len {w:World} {mp:Nat} {l:List St} (h:NameMap w mp l) (ty:TypeId):(Builtin.len_ #[101] ty #[.map (some mp)]).run Tryz.prog w=.ok (.int .i64 (l.length:Int)) w:=by
 obtain ⟨M,D,h1,h2,_⟩:=h.own;have:=h1.len Tryz.underlying101 ty;rw [h2] at this;exact this
theorem NameMap.put {w:World} {mp:Nat} {l:List St} {s:St} (h:NameMap w mp l) (hs:kG s) (hl:s.arcs.length<=2000000) (hm:s∉l) (h6:l.length<=7000) :
 ∃w',(Instr.mapUpdate 101 (.map (some mp)) (.string (oq s)) (.int .i64 (l.length:Int))).run Tryz.prog w=.ok () w'/\NameMap w' mp (l++[s])/\w.grownBy w' (some mp):=by
 obtain ⟨M,D,h1,h2,h3,h4⟩:=h.own;have hwf:(Lit.int .i64 (l.length:Int)).wf=true:=by apply WalkArith.wf_i64<;>omega
 obtain ⟨w',hrun,r1,r2⟩:=h1.update Ea Tryz.underlying101 (by unfold maxLen;omega) (JF hl) (plainElem_int Tryz.underlying3 hwf)
 have hh:has D (qX s)=false:=by
  rcases h4 s hs hl with ⟨k,hk,he,_⟩|⟨_,hh⟩
  ·exact absurd (by rw [<-he,gdq,geg hk,Option.getD_some];exact List.getElem_mem _) hm
  ·exact hh
 have hsz:Maps.size (D.put (qX s) (.lit (.int .i64 (l.length:Int))))=l.length+1:=by
  rw [Maps.size_put (h1.tidy Ea),hh,h2];rfl
 refine ⟨w',hrun,⟨⟨M+1,_,r1,by rw [hsz];simp,by simp;omega,fun t ht htl=>?_⟩⟩,r2⟩;by_cases hts:t=s
 ·subst hts;refine .inl ⟨l.length,by simp,by simp,?_,?_⟩
  ·exact has_put_same h1.isMap (Ea.key (JF hl)) _
  ·exact atKey_put_same h1.isMap (Ea.key (JF hl)) _ _
 ·have hk:qX t≠qX s:=fun e=>hts (akm ht hs e);rcases h4 t ht htl with ⟨k,hk',he,hh',ha⟩|⟨hm',hh'⟩
  ·refine .inl ⟨k,by simp;omega,?_,?_,?_⟩
   ·rw [gdq,List.getElem?_append_left hk',<-gdq];exact he
   ·rw [has_put_other hk];exact hh'
   ·rw [atKey_put_other hk];exact ha
  ·exact .inr ⟨by simp [hm',hts],by rw [has_put_other hk];exact hh'⟩
end
section
open Go.RowKit Go.Maps Tri Daw

theorem OW {B:Nat} {w w':World} (h:Below B w w') (hB:w.heap.size<=B) (row:Option Nat):w.grownBy w' row:=⟨h.os,h.tape,h.output,h.size,fun k hk _=>h.block k omg⟩

theorem ako (mp:Nat) (l:List St) (x:Sw) (w:World) (hN:NameMap w mp l) (hx:x.Good w) (hn:kG x.st) (hlen:x.n<=2000000) (hm:x.st∈l) :
 Calls Tryz.prog 114 #[.map (some mp),.agg #[.bool x.fin,.slice x.a x.n x.cap]] w fun e w'=>∃k:Nat,e=.returned (.int .i64 (k:Int))/\k<l.length/\l.getD k St.no=x.st/\NameMap w' mp l/\w.grownBy w' (some mp):=by
 have HN:=hdq hN;have HX:=hdq hx;have uq:=hdq hn;have HM:=hdq hm;have dX:=hdq hlen;have KQ:Hid (x.st.arcs.length<=2000000):=hdq (by have:x.st.arcs.length=x.n:=hx.1;omega);have HB0:∀o,Hid (Below w.heap.size w (w.alloc o)):=fun o=>hdq ((Below.refl _ w).alloc lrf o);clear hN hx hn hm hlen;go_enter Tryz.func114,Tryz.ntmps114;go_wp2_with (go_at_call 149;refine (XT x _ (HX.out.alloc _) uq.out dX.out).mono ?_;rintro e w2 ⟨rfl,hb⟩;have HB:Hid (Below w.heap.size w w2):=hdq ((HB0 _).out.trans (hb.mono smp));have Cm:Hid (NameMap w2 mp l):=hdq (HN.out.block (HB.out.block mp HN.out.lt));obtain ⟨k,hk,he,hrun⟩:=(Cm.out.look uq.out KQ.out).resolve_right (fun h=>h.1 HM.out);have HE:=hdq he;clear hb he);go_ret;exact ⟨k,rfl,hk,HE.out,Cm.out,OW HB.out lrf _⟩
theorem akp (mp:Nat) (l:List St) (x:Sw) (w:World) (hN:NameMap w mp l) (hx:x.Good w) (hn:kG x.st) (hlen:x.n<=2000000) (hm:x.st∉l) (h7:l.length<=7000) :
 Calls Tryz.prog 114 #[.map (some mp),.agg #[.bool x.fin,.slice x.a x.n x.cap]] w fun e w'=>e=.returned (.int .i64 (l.length:Int))/\NameMap w' mp (l++[x.st])/\w.grownBy w' (some mp):=by
 have HN:=hdq hN;have HX:=hdq hx;have uq:=hdq hn;have HM:=hdq hm;have dX:=hdq hlen;have KQ:Hid (x.st.arcs.length<=2000000):=hdq (by have:x.st.arcs.length=x.n:=hx.1;omega);have HB0:∀o,Hid (Below w.heap.size w (w.alloc o)):=fun o=>hdq ((Below.refl _ w).alloc lrf o);obtain ⟨N,KR⟩:∃N,l.length=N:=⟨_,rfl⟩;have iX:=hdq KR;rw [KR];rw [KR] at h7;clear hN hx hn hm hlen KR;go_enter Tryz.func114,Tryz.ntmps114;go_wp2_with (go_at_call 149;refine (XT x _ (HX.out.alloc _) uq.out dX.out).mono ?_;rintro e w2 ⟨rfl,hb⟩;have HB:Hid (Below w.heap.size w w2):=hdq ((HB0 _).out.trans (hb.mono smp));have Cm:Hid (NameMap w2 mp l):=hdq (HN.out.block (HB.out.block mp HN.out.lt));obtain ⟨-,c,hrun⟩:=(Cm.out.look uq.out KQ.out).resolve_left (fun ⟨k,hk,he,_⟩=>HM.out (by rw [<-he,gdq,geg hk,Option.getD_some];exact List.getElem_mem _));have apb:=fun ty=>Cm.out.len ty;rw [iX.out] at apb;obtain ⟨w3,hput,kN,hg3⟩:=Cm.out.put uq.out KQ.out HM.out (by rw [iX.out];omega);rw [iX.out] at hput;have mP:=hdq kN;have HG3:=hdq hg3;clear hb kN hg3);go_ret;exact ⟨rfl,mP.out,(OW HB.out lrf _).trans HG3.out⟩

theorem XU {n i:Nat}:∀{l:List (Int × Int)} {p:Option Int},dh n i p l=true->(∀a∈l,Utf.good a.1=true/\(i:Int)<a.2/\a.2<(n:Int))/\(l.Pairwise fun a b=>a.1<b.1)/\∀q,p=some q->∀a∈l,q<a.1
 | [],_,_=>⟨by simp,List.Pairwise.nil,by simp⟩
 | a::r,p,h=>by
   unfold dh at h;simp only [Bool.and_eq_true,decide_eq_true_eq] at h;obtain ⟨⟨⟨⟨h1,h2⟩,h3⟩,h4⟩,h5⟩:=h;obtain ⟨g1,g2,g3⟩:=XU h5;refine ⟨fun b hb=>?_,List.pairwise_cons.2 ⟨fun b hb=>g3 _ rfl b hb,g2⟩,fun q hq b hb=>?_⟩
   ·rcases List.mem_cons.1 hb with rfl|hb
    ·exact ⟨h1,h2,h3⟩
    ·exact g1 b hb
   ·subst hq;have h4':q<a.1:=by simpa [behind] using h4
    rcases List.mem_cons.1 hb with rfl|hb
    ·exact h4'
    ·have:=g3 _ rfl b hb;omega
theorem XV:∀(l:List (Int × Int)) (lo:Int),(l.Pairwise fun a b=>a.1<b.1)->(∀a∈l,lo<=a.1/\a.1<=1114111)->lo<=1114112->(l.length:Int)<=1114112-lo
 | [],lo,_,_,h=>by simp;omega
 | a::r,lo,hp,hb,h=>by
   rw [List.pairwise_cons] at hp;have ha:=hb a smp;have:=XV r (a.1+1) hp.2 (fun b hb'=>⟨by have:=hp.1 b hb';omega,(hb b (by simp [hb'])).2⟩) omg;rw [List.length_cons];omega
theorem XW {n:Nat}:∀{l:List St} {i:Nat},ib n i l=true->∀k,∀h:k<l.length,dh n (i+k) none l[k].arcs=true
 | [],_,_,k,h=>by simp at h
 | s::r,i,h,k,hk=>by
   unfold ib at h;rw [Bool.and_eq_true] at h
   cases k with
   | zero=>simpa using h.1
   | succ k =>
     have:=XW h.2 k (by simpa using hk);rw [List.getElem_cons_succ,show i+(k+1)=i+1+k by omega];exact this
theorem Ba {l:List St} (h:check l=true):l.length<=6001/\∀s∈l,kG s/\s.arcs.length<=2000000:=by
 unfold check at h;simp only [Bool.and_eq_true,decide_eq_true_eq] at h;obtain ⟨⟨h1,h2⟩,h3⟩:=h;refine ⟨h3,fun s hs=>?_⟩;obtain ⟨k,hk,rfl⟩:=List.getElem_of_mem hs;obtain ⟨g1,g2,_⟩:=XU (XW h1 k hk);refine ⟨fun a ha=>?_,?_⟩
 ·obtain ⟨a1,a2,a3⟩:=g1 a ha;exact ⟨a1,by omega,by omega⟩
 ·have:=XV _ 0 g2 (fun a ha=>by have:=(Utf.lX _).1 (g1 a ha).1;omega) omg;omega
end
end Go.Proofs.YtkiamgcpcneggaaGreat
